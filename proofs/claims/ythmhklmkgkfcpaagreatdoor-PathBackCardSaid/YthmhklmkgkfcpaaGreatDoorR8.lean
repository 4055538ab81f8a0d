import Derived.Test.YthmhklmkgkfcpaaGreatDoorR2
import Derived.Test.YthmhklmkgkfcpaaGreatDoorR6
import Derived.Test.YthmhklmkgkfcpaaGreatDoorR7
import Derived.Deep.RegionHeld3
import Derived.StillTailTactics
import Derived.Deep.WholeRow
set_option linter.unusedVariables false
set_option linter.unusedSimpArgs false
set_option maxHeartbeats 8000000
set_option maxRecDepth 100000
namespace Go.Proofs.YthmhklmkgkfcpaaGreatDoor
open Go.RowKit
def By (T:TypeId)(w:World)(g:Nat)(l:List UInt8):Prop:=w.heap[g]?=some (.cells (Lib.byteCells l).toArray T (0,0))
theorem By.lt {T:TypeId}{w:World}{g:Nat}{l:List UInt8}(h:By T w g l):g<w.heap.size:=(Array.getElem?_eq_some_iff.1 h).1
theorem By.cell {T:TypeId}{w:World}{g:Nat}{l:List UInt8}(h:By T w g l)(i:Nat)(hi:i<l.length):w.cell? ⟨g,i,none⟩=some (.int .u8 ((l.getD i 0).toNat:Int)):=by
 rw[cell_of_row w g i _ T _ h];simp[Lib.byteCells,hi]
theorem By.frozen {T:TypeId}{w:World}{g:Nat}{l:List UInt8}(h:By T w g l)(i:Nat):w.frozen? ⟨g,i,none⟩=false:=by
 have h':=h;unfold By at h';simp[World.frozen?,h']
theorem By.kp {T:TypeId}{w w':World}{g:Nat}{l:List UInt8}(h:By T w g l)(k:Kp w w'):By T w' g l:=(k.block g h.lt).trans h
theorem By.set {T:TypeId}{w:World}{g:Nat}{l m:List UInt8}(h:By T w g l)(i:Nat)(x:UInt8)(hm:l.set i x=m):By T (w.setCell ⟨g,i,none⟩ (.int .u8 (x.toNat:Int))) g m:=by
 subst hm;have h':=h;unfold By at h' ⊢;obtain ⟨hlt,heq⟩:=Array.getElem?_eq_some_iff.1 h';simp[World.setCell,hlt,Array.getElem_modify,heq,Lib.byteCells,List.map_set]
theorem By.rd {T:TypeId}{w:World}{g n c:Nat}{l:List UInt8}(h:By T w g l)(hn:n≤l.length)(hc:n≤c)(hm:c≤maxLen):Rd w (.slice (some ⟨g,0,none⟩) n c) (l.take n):=by
 have e:(l.take n).length=n:=by simp;omega
 refine ⟨some ⟨g,0,none⟩,c,by rw[e],by rw[e];exact hc,hm,fun h=>(by cases h),fun x hx i hi=>?_⟩;cases hx;rw[e] at hi;have:=h.cell i (by omega);rw[List.getElem_take];rw[List.getD_eq_getElem?_getD,List.getElem?_eq_getElem (by omega)] at this;rw[← Option.getD_some (a:=l[i]) (b:=0),← this];congr 1
 unfold Addr.add;split <;> simp_all
theorem By.rdAll {T:TypeId}{w:World}{g n c:Nat}{l:List UInt8}(h:By T w g l)(hn:n=l.length)(hc:n≤c)(hm:c≤maxLen):Rd w (.slice (some ⟨g,0,none⟩) n c) l:=by
 have:=h.rd (n:=n) (by omega) hc hm;rwa [List.take_of_length_le (by omega)] at this
theorem By.fresh (T:TypeId)(w:World)(n:Nat):By T (w.alloc (.cells (Array.replicate n (.int .u8 0)) T)) w.heap.size (List.replicate n 0):=by
 have:=heap_alloc_new w (.cells (Array.replicate n (.int .u8 0)) T);unfold By;rw[this];simp[Lib.byteCells]
def mixB (A B:List UInt8)(i:Nat):List UInt8:=B.take i++A.drop i
theorem aaZ (A B:List UInt8)(i:Nat)(h:A.length=B.length)(hi:i≤A.length):(mixB A B i).length=A.length:=by simp[mixB];omega
theorem acs (A B:List UInt8)(i:Nat)(h:A.length=B.length)(hi:i<A.length)(x:UInt8)(hx:B[i]?=some x):(mixB A B i).set i x=mixB A B (i+1):=by
 unfold mixB;have hb:i<B.length:=by omega
 have hl:(B.take i).length=i:=by simp;omega
 rw[List.getElem?_eq_getElem hb] at hx;rw[List.set_append_right _ _ (by omega),hl,Nat.sub_self,List.drop_eq_getElem_cons hi,List.set_cons_zero,List.take_succ_eq_append_getElem hb,List.append_assoc];cases hx;rfl
theorem adl (A B:List UInt8)(h:A.length=B.length):mixB A B B.length=B:=by
 unfold mixB;rw[List.take_of_length_le (Nat.le_refl _),List.drop_eq_nil_of_le (by omega),List.append_nil]
theorem anD:∀ (w N k:Nat),k<w→(be w N)[k]?=some (UInt8.ofNat (N / 256 ^ (w - 1 - k)))
 | 0,_,k,h=>by omega
 | w+1,N,0,_=>by rw[aer];simp
 | w+1,N,k+1,h=>by
  rw[aer,List.getElem?_cons_succ,anD w N k (by omega)]
  congr 4
  omega
theorem afm (n:Nat):fill n<64:=by unfold fill;omega
theorem acy (n:Nat):(pad n).length=9+fill n:=by simp[pad,aak];omega
theorem ajt (n:Nat):(n+(pad n).length) % 64=0:=by rw[acy];unfold fill;omega
theorem aqC (n k:Nat)(h:k<8):(pad n)[1+fill n+k]?=some (UInt8.ofNat (8*n / 256 ^ (7 - k))):=by
 have e:(128 :: List.replicate (fill n) 0:List UInt8).length=1+fill n:=by simp;omega
 have hp:pad n=(128 :: List.replicate (fill n) 0)++be 8 (8*n):=rfl;rw[hp,List.getElem?_append_right (by omega),e,show 1+fill n+k - (1+fill n)=k by omega,anD 8 _ k h]
theorem anE (n:Nat):(List.replicate (9+fill n) (0:UInt8)).set 0 128=mixB (List.replicate (9+fill n) 0) (pad n) (1+fill n):=by
 have e:(128 :: List.replicate (fill n) 0:List UInt8).length=1+fill n:=by simp;omega
 have hp:pad n=(128 :: List.replicate (fill n) 0)++be 8 (8*n):=rfl;unfold mixB;rw[hp,List.take_append_of_le_length (by omega),List.take_of_length_le (by omega),List.drop_replicate,show 9+fill n=(fill n+8)+1 by omega,List.replicate_succ,List.set_cons_zero,show fill n+8+1 - (1+fill n)=8 by omega,List.cons_append,List.replicate_append_replicate]
def aju (n:Int):List UInt8:=if 0≤n∧n≤1125899906842624 then pad n.toNat else []
theorem anH (n:Int)(w:World):
  Calls Tryz.prog 249 #[.int .i64 n] w fun e w'=>(∃ v,e=.returned v∧Rd w' v (aju n))∧Kp w w':=by
 by_cases h0:0≤n∧n≤1125899906842624
 ·have hp:aju n=pad n.toNat:=if_pos h0
  rw[hp];clear hp;obtain ⟨h0,h1⟩:=h0;obtain ⟨n,rfl⟩:=Int.eq_ofNat_of_zero_le h0;rw[Int.toNat_natCast];obtain ⟨f,hf⟩:∃ f,fill n=f:=⟨_,rfl⟩;have hfl:=afm n;have hl:=acy n;have hst:=anE n;have hget:=aqC n;have hfi:(119 - (n:Int) % 64).tmod 64=(f:Int):=by
   rw[Int.tmod_eq_emod_of_nonneg (by omega),← hf];unfold fill;omega
  rw[hf] at hfl hl hst hget;have hfi2:(119 - (n:Int) % 64) % 64=(f:Int):=by rw[← hfi,Int.tmod_eq_emod_of_nonneg (by omega)]
  have HG:=Lib.hid hget;have HL:=Lib.hid hl;have HS:=Lib.hid hst;have HB:=Lib.hid h1;have hw:IntKind.i64.wrap (8*(n:Int))=8*(n:Int):=by rw[IntKind.wrap_i64];omega
  clear hf hget hl hst;go_enter Tryz.func249,Tryz.ntmps249;have hz:((9+f:Nat):Int)=1+(f:Int)+8:=by omega
  have HZ:=Lib.hid hz;clear hz;go_wp2_with (at_make;refine aaX (z:=.int .u8 0) (b:=1) Tryz.underlying24 Tryz.info5 rfl (by decide) rfl _ _ rfl (9+f) (by rw[HZ.out];rfl) (by rw[HZ.out];rfl) (by omega) ?_;intro w1 hw1;have HW1:=Lib.hid hw1;clear hw1;have hB0:By 5 w1 w.heap.size (List.replicate (9+f) 0):=(by rw[HW1.out];exact By.fresh _ _ _);have hk0:Kp w w1:=(by rw[HW1.out];exact (Kp.refl w).alloc _);have c0:=hB0.cell 0 (by simp;omega);have f0:=hB0.frozen 0)
  have hB1:By 5 (w1.setCell ⟨w.heap.size,0,none⟩ (.int .u8 128)) w.heap.size (mixB (List.replicate (9+f) 0) (pad n) (1+f)):=hB0.set 0 128 HS.out;have hk1:Kp w (w1.setCell ⟨w.heap.size,0,none⟩ (.int .u8 128)):=Below.setCell hk0 (by simp) _;clear hB0 hk0 c0 f0 HW1 hfi hfi2;go_loopw[22] (fun i wr=>∃ k:Nat,k≤8∧i=.int .i64 k∧By 5 wr w.heap.size (mixB (List.replicate (9+f) 0) (pad n) (1+f+k))∧Kp w wr) (fun i _=>8 - (intOf i).toNat)
  case atStart=>exact ⟨0,by omega,rfl,hB1,hk1⟩
  case round=>
   clear hB1 hk1;obtain ⟨k,hk,rfl,hB,hkp⟩:=hrel;by_cases hlt:k<8
   ·have hset:=acs (List.replicate (9+f) 0) (pad n) (1+f+k) (by rw[HL.out];simp) (by simp;omega) _ (HG.out k hlt)
    have hlen:(mixB (List.replicate (9+f) 0) (pad n) (1+f+k)).length=9+f:=by rw[aaZ _ _ _ (by rw[HL.out];simp) (by simp;omega)];simp
    have c0:=hB.cell (1+f+k) (by rw[hlen];omega);have f0:=hB.frozen (1+f+k);have e1:(8*(7 - (k:Int))).toNat=8*(7 - k):=by omega
    have e2:(8*(n:Int)) / 2 ^ (8*(7 - k))=((8*n / 256 ^ (7 - k):Nat):Int):=by
     have:(256:Nat) ^ (7 - k)=2 ^ (8*(7 - k)):=by rw[Nat.pow_mul]
     rw[this];simp
    obtain ⟨X,hX⟩:∃ X,8*n / 256 ^ (7 - k)=X:=⟨_,rfl⟩;rw[hX] at e2 hset;have hv:((UInt8.ofNat X).toNat:Int)=(X:Int) % 256:=by simp
    have hi1:(1+(f:Int)+(k:Int))<9+(f:Int):=by omega
    have hi2:(1+(f:Int)+(k:Int)).toNat=1+f+k:=by omega
    have H7:(0:Int)≤7 - (k:Int):=by omega
    have HS2:=Lib.hid (And.intro hset hv);clear hset hX hlen hv;go_wp2_with fail;go_roundw
    case rel=>
     refine ⟨k+1,by omega,by go_num,?_,Below.setCell hkp (by simp) _⟩;have h:=hB.set (1+f+k) (UInt8.ofNat X) HS2.out.1;rw[HS2.out.2] at h;exact h
    case measure=>simp[intOf];omega
   ·obtain rfl:k=8:=by omega
    have hm:mixB (List.replicate (9+f) 0) (pad n) (1+f+8)=pad n:=by
     rw[show 1+f+8=(pad n).length by rw[HL.out];omega];exact adl _ _ (by rw[HL.out];simp)
    rw[hm] at hB;clear hm;go_wp2_with fail;go_ret;exact ⟨⟨_,rfl,hB.rdAll (by rw[HL.out]) (Nat.le_refl _) (by unfold maxLen;omega)⟩,hkp⟩
 ·have hp:aju n=[]:=if_neg h0
  rw[hp];by_cases h:n<0
  ·go_enter Tryz.func249,Tryz.ntmps249
   go_wp2;go_ret;exact ⟨⟨_,rfl,none,0,rfl,Nat.le_refl _,Nat.zero_le _,fun _=>rfl,fun x hx=>by cases hx⟩,Kp.refl _⟩
  ·have h2:1125899906842624<n:=by omega
   clear h0;go_enter Tryz.func249,Tryz.ntmps249;go_wp2;go_ret;exact ⟨⟨_,rfl,none,0,rfl,Nat.le_refl _,Nat.zero_le _,fun _=>rfl,fun x hx=>by cases hx⟩,Kp.refl _⟩
theorem al6 (n:Int)(w:World):
  Calls Tryz.prog 223 #[.int .i64 n] w fun e w'=>(∃ v,e=.returned v∧Rd w' v (aju n))∧Kp w w':=by
 have U:=ar5;by_cases h0:0≤n∧n≤1125899906842624
 ·have hp:aju n=pad n.toNat:=if_pos h0
  rw[hp];clear hp;obtain ⟨h0,h1⟩:=h0;obtain ⟨n,rfl⟩:=Int.eq_ofNat_of_zero_le h0;rw[Int.toNat_natCast];obtain ⟨f,hf⟩:∃ f,fill n=f:=⟨_,rfl⟩;have hfl:=afm n;have hfz:∀ k:Nat,k≤f→(((n:Int)+((k:Int)+1)+8) % 64=0↔k=f):=fun k hk=>by
   have:f=(119 - n % 64) % 64:=hf.symm;omega
  have hp:pad n=128 :: List.replicate f 0++be 8 (8*n):=by unfold pad;rw[hf]
  rw[hf] at hfl;have HFZ:=Lib.hid hfz;have HP:=Lib.hid hp;have HB:=Lib.hid h1;have hw:IntKind.i64.wrap (8*(n:Int))=8*(n:Int):=by rw[IntKind.wrap_i64];omega
  clear hf hfz hp;go_enter Tryz.func223,Tryz.ntmps223;go_wp2_with fail;go_loopw[3] (fun v wr=>∃ k:Nat,k≤f∧Ow 5 wr w.heap.size v (128 :: List.replicate k 0)∧Kp w wr) (fun v wr=>f - (match v with | .slice _ n _=>n - 1 | _=>0))
  case atStart=>exact ⟨0,by omega,Ow.lit w 5 w.heap.size 1 _ [128] (Nat.le_refl _) rfl (by decide) rfl,(Kp.refl w).alloc _⟩
  case round=>
   obtain ⟨k,hk,hown,hkp⟩:=hrel;obtain ⟨a,c,rfl,hc1,hc2⟩:=hown.rd.shape;have hl:(128 :: List.replicate k 0:List UInt8).length=k+1:=by simp
   rw[hl] at hown hc1 ⊢;unfold maxLen at hc2;by_cases hlt:k<f
   ·have hne:¬((n:Int)+((k:Int)+1)+8) % 64=0:=by rw[HFZ.out k hk];omega
    go_wp2_with (at_builtin;refine aae U rfl _ _ rfl w.heap.size _ _ rfl (hown.kp ((Kp.refl _).alloc _)) _ [0] rfl (Rd.box _ _ _ 0 rfl) ?c1 ?c2 ?_;rotate_right;intro v' w2 ho2 hg _)
    case c1=>simp;omega
    case c2=>have:=hkp.size;simp;omega
    have he:(128 :: List.replicate k 0++[0]:List UInt8)=128 :: List.replicate (k+1) 0:=by rw[List.replicate_succ',List.cons_append]
    rw[he] at ho2;go_roundw
    case rel=>exact ⟨k+1,by omega,ho2,Kp.grown (hkp.alloc _) hg hown.own_ge⟩
    case measure=>
     obtain ⟨a',c',rfl,_,_⟩:=ho2.rd.shape;simp;omega
   ·obtain rfl:k=f:=by omega
    have hne:((n:Int)+((k:Int)+1)+8) % 64=0:=(HFZ.out k (Nat.le_refl _)).2 rfl;clear hlt;go_wp2_with fail;go_loopw[3,5] (fun v i wr=>∃ j:Nat,j≤8∧i=.int .i64 (56 - 8*(j:Int))∧Ow 5 wr w.heap.size v (128 :: List.replicate k 0++(be 8 (8*n)).take j)∧Kp w wr) (fun _ i _=>(64+intOf i).toNat)
    case atStart=>exact ⟨0,by omega,rfl,by rw[List.take_zero,List.append_nil];exact hown,hkp⟩
    case round=>
     clear hown hkp hne hc1 hc2;obtain ⟨j,hj,rfl,hown,hkp⟩:=hrel;by_cases hlt:j<8
     ·have e2:(8*(n:Int)) / 2 ^ (56 - 8*j)=((8*n / 256 ^ (7 - j):Nat):Int):=by
       have:(256:Nat) ^ (7 - j)=2 ^ (56 - 8*j):=by rw[show 56 - 8*j=8*(7 - j) by omega,Nat.pow_mul]
       rw[this];simp
      have e1:(56 - 8*(j:Int)).toNat=56 - 8*j:=by omega
      have hj0:0≤56 - 8*(j:Int):=by omega
      have hget:=anD 8 (8*n) j hlt;have htk:(be 8 (8*n)).take (j+1)=(be 8 (8*n)).take j++[UInt8.ofNat (8*n / 256 ^ (7 - j))]:=by
       have hlt':j<(be 8 (8*n)).length:=by rw[aak];exact hlt
       rw[List.take_succ_eq_append_getElem hlt'];rw[List.getElem?_eq_getElem hlt'] at hget;rw[Option.some.inj hget]
      obtain ⟨X,hX⟩:∃ X,8*n / 256 ^ (7 - j)=X:=⟨_,rfl⟩;rw[hX] at e2 htk;obtain ⟨bx,hbx⟩:∃ b:UInt8,UInt8.ofNat X=b:=⟨_,rfl⟩;have hv:(X:Int) % 256=(bx.toNat:Int):=by rw[← hbx];simp
      rw[hbx] at htk;have hlen:(128 :: List.replicate k 0++(be 8 (8*n)).take j:List UInt8).length≤100:=by simp[aak];omega
      have HT:=Lib.hid htk;obtain ⟨L,hL⟩:∃ L,(128 :: List.replicate k 0++(be 8 (8*n)).take j:List UInt8)=L:=⟨_,rfl⟩;rw[hL] at hown hlen;have HL:=Lib.hid hL;have hu8:IntKind.u8.wrap (X:Int)=(bx.toNat:Int):=by rw[IntKind.wrap_u8,hv]
      have HB2:=Lib.hid hbx;clear htk hget hX hL hbx;go_wp2_with (at_builtin;refine aae U rfl _ _ rfl w.heap.size _ _ rfl (hown.kp ((Kp.refl _).alloc _)) _ [bx] rfl (Rd.box _ _ _ bx rfl) ?c1 ?c2 ?_;rotate_right;intro v' w2 ho2 hg _)
      case c1=>simp;omega
      case c2=>have:=hkp.size;simp;omega
      go_roundw
      case rel=>exact ⟨j+1,by omega,by congr 1;omega,by rw[HT.out,← List.append_assoc,HL.out];exact ho2,Kp.grown (hkp.alloc _) hg hown.own_ge⟩
      case measure=>simp[intOf];omega
     ·obtain rfl:j=8:=by omega
      rw[List.take_of_length_le (by rw[aak];exact Nat.le_refl _)] at hown;rw[← HP.out] at hown;go_wp2_with fail;go_ret;exact ⟨⟨_,rfl,hown.rd⟩,hkp⟩
 ·have hp:aju n=[]:=if_neg h0
  rw[hp];by_cases h:n<0
  ·go_enter Tryz.func223,Tryz.ntmps223
   go_wp2;go_ret;exact ⟨⟨_,rfl,none,0,rfl,Nat.le_refl _,Nat.zero_le _,fun _=>rfl,fun x hx=>by cases hx⟩,Kp.refl _⟩
  ·have h2:1125899906842624<n:=by omega
   clear h0;go_enter Tryz.func223,Tryz.ntmps223;go_wp2;go_ret;exact ⟨⟨_,rfl,none,0,rfl,Nat.le_refl _,Nat.zero_le _,fun _=>rfl,fun x hx=>by cases hx⟩,Kp.refl _⟩
attribute [local go_sem] agA aoY anA aoZ u_or anB ajs arB arz aqB
theorem apb (s:S8)(v:Value)(all:List UInt8)(at':Nat)(gk ck:Nat)(k:List UInt32)(w:World)(h:Rd w v all)(hl:at'+64≤all.length)(hk:Arr 247 w gk k)(hkl:k.length=64):
  Calls Tryz.prog 226 #[.agg (aal s.list),v,.int .i64 at',.slice (some ⟨gk,0,none⟩) 64 ck] w fun e w'=>e=.returned (.agg (aal (comp k s ((all.drop at').take 64)).list))∧Kp w w':=by
 obtain ⟨l,hL⟩:∃ l,(all.drop at').take 64=l:=⟨_,rfl⟩;rw[hL];have HKL:=Lib.hid hkl;have HLL:=Lib.hid hL;clear hL hkl;go_enter Tryz.func226,Tryz.ntmps226;go_wp2_with ((at_make;(refine aaX (z:=.int .u32 0) (b:=4) Tryz.underlying250 (by kernel_rfl) rfl (by decide) rfl _ _ rfl 64 rfl rfl (by decide) ?_);intro w1 hw1;have HW1:=Lib.hid hw1;clear hw1))
 have hR:Arr 252 ((w.alloc (.cells (aal s.list) 252)).alloc (.cells (aal (aaH 8)) 252)) (w.heap.size+1) (aaH 8):=by
  have:=Arr.new 252 (w.alloc (.cells (aal s.list) 252)) (aal (aaH 8)) (aaH 8) rfl;rw[World.size_alloc] at this;exact this
 have hB0:Arr 252 w1 w.heap.size s.list:=by rw[HW1.out];exact ((Arr.new _ w _ s.list rfl).alloc _).alloc _
 have hR0:Arr 252 w1 (w.heap.size+1) (aaH 8):=by rw[HW1.out];exact hR.alloc _
 have hW0:Arr 247 w1 (w.heap.size+1+1) (upto l 0):=by
  rw[HW1.out];have:=Arr.new 247 ((w.alloc (.cells (aal s.list) 252)).alloc (.cells (aal (aaH 8)) 252)) (aal (aaH 64)) (upto l 0) rfl;rw[World.size_alloc,World.size_alloc,ajy] at this;exact this
 have hK0:Kp w w1:=by rw[HW1.out];exact (((Kp.refl w).alloc _).alloc _).alloc _
 clear hR;go_loopw[10] (fun i wr=>∃ t:Nat,t≤16∧i=.int .i64 t∧Arr 252 wr w.heap.size s.list∧Arr 252 wr (w.heap.size+1) (aaH 8)∧Arr 247 wr (w.heap.size+1+1) (upto l t)∧Kp w wr) (fun i _=>16 - (intOf i).toNat)
 case atStart=>exact ⟨0,by omega,rfl,hB0,hR0,hW0,hK0⟩
 case round=>
  clear hB0 hR0 hW0 hK0 HW1;obtain ⟨t,ht,rfl,hB,hR,hW,hkp⟩:=hrel;by_cases hlt:t<16
  ·have hg:∀ j,j<64→l.getD j 0=all.getD (at'+j) 0:=fun j hj=>by
    rw[← HLL.out,List.getD_eq_getElem?_getD,List.getElem?_take_of_lt hj,List.getElem?_drop,List.getD_eq_getElem?_getD]
   have hn:ab7 l (acE l t) t=adT (all.getD (at'+4*t) 0) (all.getD (at'+4*t+1) 0) (all.getD (at'+4*t+2) 0) (all.getD (at'+4*t+3) 0):=by
    unfold ab7;rw[if_pos hlt,hg _ (by omega),hg _ (by omega),hg _ (by omega),hg _ (by omega)];simp only[Nat.add_assoc]
   have hset:=(agc l t (by omega));rw[hn] at hset;have HS:=Lib.hid hset;have hlen:=acH l t (by omega);have hlenm:all.length≤maxLen:=by
    obtain ⟨a,c,_,h1,h2⟩:=h.shape;omega
   unfold maxLen at hlenm;clear hg hn hset;go_wp2_with fail;refine (ao5 _ v all (at'+4*t) _ (h.kp hkp) (by omega) (by simp)).mono ?_;rintro e w' ⟨rfl,n,rfl⟩;have ca:=(hW.drewN n).cell t (by omega);have cf:=(hW.drewN n).frozen t (by omega);have q:(t:Int)<64:=by omega
   clear hlen;go_wp2_with fail;go_roundw
   case rel=>exact ⟨t+1,by omega,by go_num,(hB.drewN n).other _ _ (by simp;omega),(hR.drewN n).other _ _ (by simp),(hW.drewN n).setTo t _ HS.out,Below.setCell (hkp.drewN n) (by simp;omega) _⟩
   case measure=>simp[intOf];omega
  ·obtain rfl:t=16:=by omega
   clear ht hlt;go_wp2_with fail;go_loopw[11] (fun i wr=>∃ t:Nat,16≤t∧t≤64∧i=.int .i64 t∧Arr 252 wr w.heap.size s.list∧Arr 252 wr (w.heap.size+1) (aaH 8)∧Arr 247 wr (w.heap.size+1+1) (upto l t)∧Kp w wr) (fun i _=>64 - (intOf i).toNat)
   case atStart=>exact ⟨16,by omega,by omega,rfl,hB,hR,hW,hkp⟩
   case round=>
    clear hB hR hW hkp;obtain ⟨t,h16,ht,rfl,hB,hR,hW,hkp⟩:=hrel;by_cases hlt:t<64
    ·have hlen:=acH l t (by omega)
     have hn:ab7 l (acE l t) t=wadd (wadd (wadd (small 17 19 10 ((upto l t).getD (t - 2) 0)) ((upto l t).getD (t - 7) 0)) (small 7 18 3 ((upto l t).getD (t - 15) 0))) ((upto l t).getD (t - 16) 0):=by
      unfold ab7;rw[if_neg (by omega),acT l t _ (by omega),acT l t _ (by omega),acT l t _ (by omega),acT l t _ (by omega)]
     have hset:=(agc l t (by omega));rw[hn] at hset;have c2:=hW.cell (t - 2) (by omega);have c7:=hW.cell (t - 7) (by omega);have c15:=hW.cell (t - 15) (by omega);have c16:=hW.cell (t - 16) (by omega);have ca:=hW.cell t (by omega);have cf:=hW.frozen t (by omega);generalize (upto l t).getD (t - 2) 0=x2 at *;generalize (upto l t).getD (t - 7) 0=x7 at *;generalize (upto l t).getD (t - 15) 0=x15 at *;generalize (upto l t).getD (t - 16) 0=x16 at *;have i2:IntKind.i64.wrap ((t:Int) - 2)=(t:Int) - 2:=IntWalk.i64_in _ (by omega);have i7:IntKind.i64.wrap ((t:Int) - 7)=(t:Int) - 7:=IntWalk.i64_in _ (by omega);have i15:IntKind.i64.wrap ((t:Int) - 15)=(t:Int) - 15:=IntWalk.i64_in _ (by omega);have i16:IntKind.i64.wrap ((t:Int) - 16)=(t:Int) - 16:=IntWalk.i64_in _ (by omega);have n2:((t:Int) - 2).toNat=t - 2:=by omega
     have n7:((t:Int) - 7).toNat=t - 7:=by omega
     have n15:((t:Int) - 15).toNat=t - 15:=by omega
     have n16:((t:Int) - 16).toNat=t - 16:=by omega
     have p2:(2:Int)≤(t:Int):=by omega
     have p7:(7:Int)≤(t:Int):=by omega
     have p15:(15:Int)≤(t:Int):=by omega
     have p16:(16:Int)≤(t:Int):=by omega
     have q2:(t:Int) - 2<64:=by omega
     have q7:(t:Int) - 7<64:=by omega
     have q15:(t:Int) - 15<64:=by omega
     have q16:(t:Int) - 16<64:=by omega
     have q:(t:Int)<64:=by omega
     have HS:=Lib.hid hset;clear hset hn hlen;go_wp2_with ((go_at_call 258;refine (aiy _ _ _ (by decide) (by decide)).mono ?_;rintro e w' ⟨rfl,rfl⟩))
     go_still_tail 18,(by kernel_rfl)
     go_wp2_with fail;go_roundw
     case rel=>
      repeat apply Exists.intro
      refine ⟨?_,rfl⟩;exact ⟨t+1,by omega,by omega,by go_num,(hB.other _ _ (by simp;omega)).drew,(hR.other _ _ (by simp)).drew,(hW.setTo t _ HS.out).drew,(Below.setCell hkp (by simp;omega) _).drew⟩
     case measure=>simp[intOf];omega
    ·obtain rfl:t=64:=by omega
     rw[alx] at hW;have c0:wr.cell? ⟨w.heap.size,0,none⟩=some (.int .u32 (ar6 s.a)):=hB.cell 0 (Nat.lt_of_sub_eq_succ rfl);have c1:wr.cell? ⟨w.heap.size,1,none⟩=some (.int .u32 (ar6 s.b)):=hB.cell 1 (Nat.lt_of_sub_eq_succ rfl);have c2:wr.cell? ⟨w.heap.size,2,none⟩=some (.int .u32 (ar6 s.c)):=hB.cell 2 (Nat.lt_of_sub_eq_succ rfl);have c3:wr.cell? ⟨w.heap.size,3,none⟩=some (.int .u32 (ar6 s.d)):=hB.cell 3 (Nat.lt_of_sub_eq_succ rfl);have c4:wr.cell? ⟨w.heap.size,4,none⟩=some (.int .u32 (ar6 s.e)):=hB.cell 4 (Nat.lt_of_sub_eq_succ rfl);have c5:wr.cell? ⟨w.heap.size,5,none⟩=some (.int .u32 (ar6 s.f)):=hB.cell 5 (Nat.lt_of_sub_eq_succ rfl);have c6:wr.cell? ⟨w.heap.size,6,none⟩=some (.int .u32 (ar6 s.g)):=hB.cell 6 (Nat.lt_of_sub_eq_succ rfl);have c7:wr.cell? ⟨w.heap.size,7,none⟩=some (.int .u32 (ar6 s.h)):=hB.cell 7 (Nat.lt_of_sub_eq_succ rfl);have hk3:=hk.kp hkp;clear h hl hk;go_wp2_with fail;have C:=Lib.hid (And.intro c0 (And.intro c1 (And.intro c2 (And.intro c3 (And.intro c4 (And.intro c5 (And.intro c6 c7)))))));clear c0 c1 c2 c3 c4 c5 c6 c7;have HKL2:=HKL.out;have HWL:=aaN l 64;go_loopw[16,17,18,19,20,21,22,23,24] (fun sa sb sc sd se sf sg sh i wq=>∃ t:Nat,t≤64∧i=.int .i64 t∧(∃ r,r=rnds k (acE l 64) s t∧sa=.int .u32 (ar6 r.a)∧sb=.int .u32 (ar6 r.b)∧sc=.int .u32 (ar6 r.c)∧sd=.int .u32 (ar6 r.d)∧se=.int .u32 (ar6 r.e)∧sf=.int .u32 (ar6 r.f)∧sg=.int .u32 (ar6 r.g)∧sh=.int .u32 (ar6 r.h))∧∃ n,wq=wr.drewN n) (fun _ _ _ _ _ _ _ _ i _=>64 - (intOf i).toNat)
     case atStart=>exact ⟨0,by omega,rfl,⟨s,rfl,rfl,rfl,rfl,rfl,rfl,rfl,rfl,rfl⟩,0,rfl⟩
     case round=>
      obtain ⟨t,ht,rfl,⟨r,hr,rfl,rfl,rfl,rfl,rfl,rfl,rfl,rfl⟩,n,rfl⟩:=hrel;by_cases hlt:t<64
      ·have ck:=(hk3.drewN n).cell t (by omega)
       have cw:=(hW.drewN n).cell t (by omega);have HR:=Lib.hid hr;have q:(t:Int)<64:=by omega
       obtain ⟨wn,hwn⟩:∃ wn,wr.drewN n=wn:=⟨_,rfl⟩;rw[hwn] at ck cw ⊢;have HWN:=Lib.hid hwn;clear hr HKL2 HWL hwn;have hsg:IntKind.u32.signed=false:=rfl;go_wp2_with fail;go_quiet ((go_at_call 258;exact afg (aiy _ _ _ (by decide) (by decide))))
       go_wp2_with ((go_at_call 258;refine (aiy _ _ _ (by decide) (by decide)).mono ?_;rintro e w' ⟨rfl,rfl⟩))
       go_roundw
       case rel=>
        repeat apply Exists.intro
        refine ⟨?_,rfl⟩;exact ⟨t+1,by omega,by go_num,⟨rnd r (k.getD t 0) ((acE l 64).getD t 0),by rw[HR.out];rfl,rfl,rfl,rfl,rfl,rfl,rfl,rfl,rfl⟩,n+nq,by rw[← HWN.out,World.drewN_drewN]⟩
       case measure=>simp[intOf];omega
      ·obtain rfl:t=64:=by omega
       have HR:=Lib.hid hr;clear hr HKL2 HWL;obtain ⟨c0,c1,c2,c3,c4,c5,c6,c7⟩:=C.out;go_wp2_with ((refine aas (by kernel_rfl) rfl rfl (.tmp 8) (.tmp 206) rfl (w.heap.size+1) (aaH 8) (s.add r).list rfl rfl (hR.drewN n) rfl rfl ?_;intro w5 hR5 hbut))
       refine bodyPost_ret (abX Tryz.underlying252 (by kernel_rfl) rfl _ _ (w.heap.size+1) (s.add r).list rfl hR5 rfl) rfl ?_;exact ⟨by rw[HR.out];rfl,hbut.below (hkp.drewN n) (by omega)⟩
theorem anN (w:World):Calls Tryz.prog 246 #[] w fun e w'=>e=.returned (.agg (aal abp.list))∧Kp w w':=by
 go_enter Tryz.func246,Tryz.ntmps246;have hA:Arr 252 (w.alloc (.cells (aal (aaH 8)) 252)) w.heap.size (aaH 8):=Arr.new _ w _ _ rfl;go_wp2_with ((refine aas (by kernel_rfl) rfl rfl (.tmp 0) (.tmp 1) rfl w.heap.size (aaH 8) abp.list rfl rfl hA rfl rfl ?_;intro w5 hR5 hbut))
 refine bodyPost_ret (abX Tryz.underlying252 (by kernel_rfl) rfl _ _ w.heap.size abp.list rfl hR5 rfl) rfl ?_;exact ⟨rfl,hbut.below ((Kp.refl w).alloc _) (Nat.le_refl _)⟩
theorem ajA (w:World):Calls Tryz.prog 225 #[] w fun e w'=>e=.returned (.agg (aal abp.list))∧Kp w w':=by
 go_enter Tryz.func225,Tryz.ntmps225;have hA:Arr 252 (w.alloc (.cells (aal (aaH 8)) 252)) w.heap.size (aaH 8):=Arr.new _ w _ _ rfl;go_wp2_with ((refine aas (by kernel_rfl) rfl rfl (.tmp 0) (.tmp 1) rfl w.heap.size (aaH 8) abp.list rfl rfl hA rfl rfl ?_;intro w5 hR5 hbut))
 refine bodyPost_ret (abX Tryz.underlying252 (by kernel_rfl) rfl _ _ w.heap.size abp.list rfl hR5 rfl) rfl ?_;exact ⟨rfl,hbut.below ((Kp.refl w).alloc _) (Nat.le_refl _)⟩
theorem aky (w:World):Calls Tryz.prog 224 #[] w fun e w'=>(∃ g,e=.returned (.slice (some ⟨g,0,none⟩) 64 64)∧Arr 247 w' g keyL∧w.heap.size≤g)∧Kp w w':=by
 go_enter Tryz.func224,Tryz.ntmps224;go_wp2;go_ret;exact ⟨⟨w.heap.size,rfl,Arr.new _ w _ _ rfl,Nat.le_refl _⟩,(Kp.refl w).alloc _⟩
def ajB (i:Int):UInt32:=if 0≤i∧i<64 then keyL.getD i.toNat 0 else 0
section
variable {P : Program}
end
theorem Arr.cells8 {T:TypeId}{w:World}{g:Nat}{s:S8}(h:Arr T w g s.list):
  w.cell? ⟨g,0,none⟩=some (.int .u32 (ar6 s.a))∧w.cell? ⟨g,1,none⟩=some (.int .u32 (ar6 s.b))∧w.cell? ⟨g,2,none⟩=some (.int .u32 (ar6 s.c))∧w.cell? ⟨g,3,none⟩=some (.int .u32 (ar6 s.d)) ∧
  w.cell? ⟨g,4,none⟩=some (.int .u32 (ar6 s.e))∧w.cell? ⟨g,5,none⟩=some (.int .u32 (ar6 s.f))∧w.cell? ⟨g,6,none⟩=some (.int .u32 (ar6 s.g))∧w.cell? ⟨g,7,none⟩=some (.int .u32 (ar6 s.h)):=
 ⟨h.cell 0 (Nat.lt_of_sub_eq_succ rfl),h.cell 1 (Nat.lt_of_sub_eq_succ rfl),h.cell 2 (Nat.lt_of_sub_eq_succ rfl),h.cell 3 (Nat.lt_of_sub_eq_succ rfl),h.cell 4 (Nat.lt_of_sub_eq_succ rfl),h.cell 5 (Nat.lt_of_sub_eq_succ rfl),h.cell 6 (Nat.lt_of_sub_eq_succ rfl),h.cell 7 (Nat.lt_of_sub_eq_succ rfl)⟩
theorem Arr.frozen8 {T:TypeId}{w:World}{g:Nat}{s:S8}(h:Arr T w g s.list):
  w.frozen? ⟨g,0,none⟩=false∧w.frozen? ⟨g,1,none⟩=false∧w.frozen? ⟨g,2,none⟩=false∧w.frozen? ⟨g,3,none⟩=false∧w.frozen? ⟨g,4,none⟩=false∧w.frozen? ⟨g,5,none⟩=false∧w.frozen? ⟨g,6,none⟩=false∧w.frozen? ⟨g,7,none⟩=false:=
 ⟨h.frozen 0 (Nat.lt_of_sub_eq_succ rfl),h.frozen 1 (Nat.lt_of_sub_eq_succ rfl),h.frozen 2 (Nat.lt_of_sub_eq_succ rfl),h.frozen 3 (Nat.lt_of_sub_eq_succ rfl),h.frozen 4 (Nat.lt_of_sub_eq_succ rfl),h.frozen 5 (Nat.lt_of_sub_eq_succ rfl),h.frozen 6 (Nat.lt_of_sub_eq_succ rfl),h.frozen 7 (Nat.lt_of_sub_eq_succ rfl)⟩
theorem Arr.set8 {T:TypeId}{w:World}{g:Nat}{s:S8}(h:Arr T w g s.list)(r:S8):
  Arr T ((((((((w.setCell ⟨g,0,none⟩ (.int .u32 (ar6 r.a))).setCell ⟨g,1,none⟩ (.int .u32 (ar6 r.b))).setCell ⟨g,2,none⟩ (.int .u32 (ar6 r.c))).setCell ⟨g,3,none⟩ (.int .u32 (ar6 r.d))).setCell ⟨g,4,none⟩ (.int .u32 (ar6 r.e))).setCell ⟨g,5,none⟩ (.int .u32 (ar6 r.f))).setCell ⟨g,6,none⟩ (.int .u32 (ar6 r.g))).setCell ⟨g,7,none⟩ (.int .u32 (ar6 r.h))) g r.list:=
 (((((((h.set 0 r.a _ rfl).set 1 r.b _ rfl).set 2 r.c _ rfl).set 3 r.d _ rfl).set 4 r.e _ rfl).set 5 r.f _ rfl).set 6 r.g _ rfl).set 7 r.h _ rfl
theorem ade {B:Nat}{a w:World}(h:Below B a w){g:Nat}(hg:B≤g)(v0 v1 v2 v3 v4 v5 v6 v7:Value):
  Below B a ((((((((w.setCell ⟨g,0,none⟩ v0).setCell ⟨g,1,none⟩ v1).setCell ⟨g,2,none⟩ v2).setCell ⟨g,3,none⟩ v3).setCell ⟨g,4,none⟩ v4).setCell ⟨g,5,none⟩ v5).setCell ⟨g,6,none⟩ v6).setCell ⟨g,7,none⟩ v7):=
 (((((((h.setCell (p:=⟨g,0,none⟩) hg _).setCell (p:=⟨g,1,none⟩) hg _).setCell (p:=⟨g,2,none⟩) hg _).setCell (p:=⟨g,3,none⟩) hg _).setCell (p:=⟨g,4,none⟩) hg _).setCell (p:=⟨g,5,none⟩) hg _).setCell (p:=⟨g,6,none⟩) hg _).setCell (p:=⟨g,7,none⟩) hg _
theorem agg8 (r:S8):Value.agg (aal r.list)=.agg #[.int .u32 (ar6 r.a),.int .u32 (ar6 r.b),.int .u32 (ar6 r.c),.int .u32 (ar6 r.d),.int .u32 (ar6 r.e),.int .u32 (ar6 r.f),.int .u32 (ar6 r.g),.int .u32 (ar6 r.h)]:=rfl
def adU (s:S8)(i:Nat):List UInt8:=(s.list.take i).flatMap ahV
theorem adV (s:S8)(i:Nat)(h:i<8):adU s (i+1)=adU s i++ahV (s.list.getD i 0):=by
 unfold adU;have h':i<s.list.length:=h;rw[List.take_succ_eq_append_getElem h',List.flatMap_append,List.getD_eq_getElem?_getD,List.getElem?_eq_getElem h'];simp
theorem ab9 (s:S8):∀ i,i≤8→(adU s i).length=4*i
 | 0,_=>rfl
 | i+1,h=>by rw[adV s i h,List.length_append,ab9 s i (by omega)];simp[ahV];omega
theorem afI (s:S8):s.bytes.length=32:=ab9 s 8 (by omega)
theorem ajC (x:UInt32):∃ b0 b1 b2 b3:UInt8,ahV x=[b0,b1,b2,b3]∧IntKind.u8.wrap (ar6 x / 16777216)=(b0.toNat:Int)∧IntKind.u8.wrap (ar6 x / 65536)=(b1.toNat:Int)∧IntKind.u8.wrap (ar6 x / 256)=(b2.toNat:Int)∧IntKind.u8.wrap (ar6 x)=(b3.toNat:Int):=by
 refine ⟨_,_,_,_,rfl,?_,?_,?_,?_⟩ <;> rw[IntKind.wrap_u8] <;> unfold ar6 <;> simp
theorem act (s:S8)(w:World):
  Calls Tryz.prog 250 #[.agg (aal s.list)] w fun e w'=>(∃ v,e=.returned v∧Ow 5 w' w.heap.size v s.bytes)∧Kp w w':=by
 have U:=ar5;obtain ⟨i0,hi,hz0,hz1,hz2⟩:=info_parts Tryz.info5;have HBB:i0.bytes=1:=hz2;have HB3:=Lib.hid HBB;clear HBB hz2;have hB0:Arr 252 (w.alloc (.cells (aal s.list) 252)) w.heap.size s.list:=Arr.new _ w _ s.list rfl;go_enter Tryz.func250,Tryz.ntmps250;go_wp2_with (first
  | (at_make;refine wpList_make_own _ rfl _ _ 24 rfl w.heap.size 5 i0 (.int .u8 0) 1 Tryz.underlying24 hi hz0 hz1 _ _ _ 32 rfl rfl rfl ?b1 ?b2 ?b3 ?_;rotate_right;intro w1 hown hgr;have hkw:Kp (w.alloc (.cells (aal s.list) 252)) w1:=Below.grown (Below.refl _ _) hgr (Nat.le_refl _) (fun k e=>by cases e);have hB1:=hB0.kp hkw;clear hgr)
  | (refine aaF Tryz.underlying252 (by kernel_rfl) rfl (.tmp 1) rfl w.heap.size s.list rfl hB1 rfl ?_))
 case b1=>rw[HB3.out];omega
 case b2=>unfold maxLen;omega
 case b3=>simp
 have ho1:Ow 5 w1 w.heap.size (.slice (some ⟨w.heap.size+1,0,none⟩) 0 32) []:=by
  rw[World.size_alloc] at hown;exact hown
 have hk1:Kp w w1:=((Kp.refl w).alloc _).trans hkw;clear hown hkw hB0 hB1 hz0 hz1 hi HB3;go_loopw[3,8] (fun v i wr=>∃ k:Nat,k≤8∧i=.int .i64 k∧Ow 5 wr w.heap.size v (adU s k)∧Kp w wr) (fun _ i _=>8 - (intOf i).toNat)
 case atStart=>exact ⟨0,by omega,rfl,ho1,hk1⟩
 case round=>
  clear ho1 hk1;obtain ⟨k,hk,rfl,hown,hkp⟩:=hrel;by_cases hlt:k<8
  ·have hidx:∀ W,(Instr.index 252 (.agg (aal s.list)) (.int .i64 k)).run Tryz.prog W=.ok (.int .u32 (ar6 (s.list.getD k 0))) W:=fun W=>by
    obtain ⟨ie,hie,hsz⟩:=aly;exact adm W 252 247 8 ie _ Tryz.underlying252 hie hsz Tryz.underlying247 rfl _ rfl k hlt _ (afl s.list k hlt)
   have hs:=adV s k hlt;have hlen:=ab9 s k (by omega);generalize s.list.getD k 0=x at *;obtain ⟨b0,b1,b2,b3,h4,v0,v1,v2,v3⟩:=ajC x;rw[h4] at hs;generalize adU s k=L at *;have HS:=Lib.hid hs;have HL:=Lib.hid hlen;clear hs hlen h4;generalize aal s.list=cs at *;go_wp2_with (at_builtin;refine aae U rfl _ _ rfl w.heap.size _ _ rfl (hown.kp ((Kp.refl _).alloc _)) _ [b0,b1,b2,b3] rfl (Ow.lit _ 5 0 4 _ _ (Nat.zero_le _) rfl (by decide) rfl).rd ?c1 ?c2 ?_;rotate_right;intro v' w2 ho2 hg _)
   case c1=>rw[HL.out];simp;omega
   case c2=>have:=hkp.size;simp;omega
   go_roundw
   case rel=>exact ⟨k+1,by omega,by go_num,by rw[HS.out];exact ho2,Kp.grown (hkp.alloc _) hg hown.own_ge⟩
   case measure=>simp[intOf];omega
  ·obtain rfl:k=8:=by omega
   go_wp2_with fail;go_ret;exact ⟨⟨_,rfl,hown⟩,hkp⟩
theorem apS (i:Nat):p3B i ^^^ mulB (p3B i) 2=p3B (i+1):=by
 rw[apP,show (3:UInt8)=1 ^^^ 2 by decide,aiE,alE]
def abR:List UInt8:=tab 255 p3B
theorem abh:abR.length=255:=aba _ _
theorem amK (i:Nat)(h:i<255):abR[i]?=some (p3B i):=by simp[abR,tab,h]
def aaz (l:List UInt8):Array Value:=(Lib.byteCells l).toArray
theorem abi (l:List UInt8):(aaz l).size=l.length:=by simp[aaz,aaf]
theorem amL (l:List UInt8)(i:Nat)(h:i<l.length):(aaz l)[i]?=some (.int .u8 ((l.getD i 0).toNat:Int)):=by
 simp[aaz,Lib.byteCells,h]
theorem By.new (T:TypeId)(w:World)(l:List UInt8):By T (w.alloc (.cells (aaz l) T)) w.heap.size l:=heap_alloc_new w _
theorem aq8:∀ w,(zeroValue 282).run Tryz.prog w=.ok (.agg (aaz (List.replicate 255 0))) w:=(zero_of_info (n:=255) (by kernel_rfl)).1
theorem aq9:∀ w,(zeroValue 283).run Tryz.prog w=.ok (.agg (aaz (List.replicate 256 0))) w:=(zero_of_info (n:=256) (by kernel_rfl)).1
theorem ara:∃ ie,Tryz.prog.info? 5=some ie∧ie.size=1:=by
 have h:(Tryz.prog.info? 5).map (·.size)=some 1:=by kernel_rfl
 cases hq:Tryz.prog.info? 5 with
 | none=>rw[hq] at h;cases h
 | some ie=>rw[hq] at h;exact ⟨ie,rfl,by simpa using h⟩
section
variable {P : Program}
theorem aca {T ty e:TypeId}{n:Nat}(hu:P.underlying ty=some (.array n e))(hi:(P.info? ty).map (·.size)=some n){ops:Array Oper}{rest:List Oper}{o:Oper}{a:Act}{w:World}{Q:Exit→Act→World→Prop}(hgd:o.guard=none)(x:Operand)(ho:o.op=.load ty x)
  (g:Nat) (l:List UInt8) (hx:a.eval x=.pointer (some ⟨g,0,none⟩)) (h:By T w g l) (hl:l.length=n)
  (hK:wpList P ops Q rest (a.put o.dst (.agg (aaz l))) w):wpList P ops Q (o :: rest) a w:=
 wpList_load_row hgd ty x ho g hx T (aaz l) (0,0) _ h hu rfl (by rw[hi,abi,hl]) hK
theorem amM (l:List UInt8):(aaz l).all (·.oneCell')=true:=by
 rw[Array.all_eq_true_iff_forall_mem];intro v hv;simp only[aaz,Lib.byteCells,List.mem_toArray,List.mem_map] at hv;obtain ⟨x,_,rfl⟩:=hv;rfl
theorem By.setRow {T:TypeId}{w:World}{g:Nat}{l:List UInt8}(h:By T w g l)(m:List UInt8):By T (w.setRow g (aaz m)) g m:=by
 unfold By at h ⊢;obtain ⟨hlt,heq⟩:=Array.getElem?_eq_some_iff.1 h;simp[World.setRow,hlt,Array.getElem_modify,heq,aaz]
theorem acP {T ty:TypeId}{n:Nat}(hi:(P.info? ty).map (·.size)=some n){ops:Array Oper}{rest:List Oper}{o:Oper}{a:Act}{w:World}{Q:Exit→Act→World→Prop}(hgd:o.guard=none)(hd:o.dst=none)(x y:Operand)(ho:o.op=.store ty x y)
  (g:Nat) (l m:List UInt8) (hx:a.eval x=.pointer (some ⟨g,0,none⟩)) (hy:a.eval y=.agg (aaz m)) (h:By T w g l) (hl:l.length=n) (hm:m.length=n)
  (hK:∀ W,By T W g m→But g w W→wpList P ops Q rest a W):wpList P ops Q (o :: rest) a w:=
 wpList_store_row hgd ty x y ho g (aaz m) hx hy T (aaz l) h (by rw[hi,abi,hm]) (by rw[abi,abi,hl,hm]) (amM m) (by rw[hd];exact hK _ (h.setRow m) (But.setRow g w _))
end
theorem aj6 (w:World):Calls Tryz.prog 238 #[] w fun e w'=>(∃ g,e=.returned (.pointer (some ⟨g,0,none⟩))∧By 283 w' g ael∧w.heap.size≤g)∧Kp w w':=by
 have z1:=aq8;have z2:=aq9;have P0:By 282 (w.alloc (.cells (aaz (List.replicate 255 0)) 282)) w.heap.size (mixB (List.replicate 255 0) abR 0):=by
  rw[show mixB (List.replicate 255 (0:UInt8)) abR 0=List.replicate 255 0 by simp[mixB]];exact By.new _ w _
 have HN:Hid (∀ i,i<255→(mixB (List.replicate 255 0) abR i).set i (p3B i)=mixB (List.replicate 255 0) abR (i+1)):=fun i hi=>
  acs _ _ i (by rw[abh,List.length_replicate]) (by rw[List.length_replicate];exact hi) _ (amK i hi)
 have HL:Hid (∀ i,i≤255→(mixB (List.replicate 255 0) abR i).length=255):=fun i hi=>by
  rw[aaZ _ _ i (by rw[abh,List.length_replicate]) (by rw[List.length_replicate];exact hi),List.length_replicate]
 have HA:Hid (mixB (List.replicate 255 0) abR 255=abR):=adl _ _ (by rw[abh,List.length_replicate]);obtain ⟨Z,hZ⟩:∃ Z,aaz (List.replicate 255 (0:UInt8))=Z:=⟨_,rfl⟩;obtain ⟨Y,hY⟩:∃ Y,aaz (List.replicate 256 (0:UInt8))=Y:=⟨_,rfl⟩;have hZs:Z.size=255:=by rw[← hZ,abi];rfl
 have hYs:Y.size=256:=by rw[← hY,abi];rfl
 rw[hZ] at z1 P0;rw[hY] at z2;generalize hM:mixB (List.replicate 255 0) abR=M at *;have HY:=Lib.hid hY;clear hZ hM hY;go_enter Tryz.func238,Tryz.ntmps238;go_wp2_with fail;go_loopw[2,7] (fun x p wr=>∃ i:Nat,i≤255∧p=.int .i64 i∧x=.int .u8 ((p3B i).toNat:Int)∧By 282 wr w.heap.size (M i)∧Kp w wr∧w.heap.size<wr.heap.size) (fun _ p _=>255 - (intOf p).toNat)
 case atStart=>exact ⟨0,by omega,rfl,rfl,P0,(Kp.refl _).alloc _,by simp⟩
 case round=>
  clear P0;obtain ⟨i,hi,rfl,rfl,hP,hk,hs⟩:=hrel;by_cases hlt:i<255
  ·have hq:(i:Int)<255:=by omega
   have hn:=HN.out i hlt;have hc:=hP.cell i (by rw[HL.out i hi];exact hlt);have hf:=hP.frozen i;have hd:=acA (p3B i) (wr.setCell ⟨w.heap.size,i,none⟩ (.int .u8 ((p3B i).toNat:Int)));have hx:=abz (p3B i) (mulB (p3B i) 2);rw[apS] at hx;have hP2:=hP.set i (p3B i) hn;have hk2:=Below.setCell hk (p:=⟨w.heap.size,i,none⟩) (by simp) (.int .u8 ((p3B i).toNat:Int));have hs2:w.heap.size<(wr.setCell ⟨w.heap.size,i,none⟩ (.int .u8 ((p3B i).toNat:Int))).heap.size:=by simpa using hs
   obtain ⟨V,hV⟩:∃ V,p3B (i+1)=V:=⟨_,rfl⟩;rw[hV] at hx;have HV:=Lib.hid hV;clear hV;generalize mulB (p3B i) 2=D at *;generalize p3B i=U at *;generalize hW:wr.setCell ⟨w.heap.size,i,none⟩ (.int .u8 (U.toNat:Int))=W at *;have HW:=Lib.hid hW;clear hn hW;go_wp2_with (go_at_call 240;rw[HW.out];refine hd.mono ?_;rintro _ _ ⟨rfl,rfl⟩)
   go_roundw
   case rel=>exact ⟨i+1,by omega,by go_num,by rw[HV.out],hP2,hk2,hs2⟩
   case measure=>simp[intOf];omega
  ·obtain rfl:i=255:=by omega
   rw[HA.out] at hP;obtain ⟨gb,hgb⟩:∃ gb,wr.heap.size=gb:=⟨_,rfl⟩;have B0:By 283 (wr.alloc (.cells Y 283)) gb (List.replicate 256 0):=by
    rw[← HY.out,← hgb];exact By.new _ wr _
   have P1:=hP.kp ((Kp.refl wr).alloc (.cells Y 283));have k1:Kp w (wr.alloc (.cells Y 283)):=hk.alloc _;have hs1:gb<(wr.alloc (.cells Y 283)).heap.size:=B0.lt;have c0:=B0.cell 0 (by decide);have f0:=B0.frozen 0;have B1:=B0.set 0 (adL 0) rfl;have hsp:=aik 0 (wr.alloc (.cells Y 283));have k2:=Below.setCell k1 (p:=⟨gb,0,none⟩) (by show w.heap.size≤gb;omega) (.int .u8 ((adL 0).toNat:Int));have P2:By 282 ((wr.alloc (.cells Y 283)).setCell ⟨gb,0,none⟩ (.int .u8 ((adL 0).toNat:Int))) w.heap.size abR:=
    (Below.heap_setCell _ ⟨gb,0,none⟩ _ w.heap.size (by show w.heap.size≠gb;omega)).trans P1
   have HF:=Lib.hid (fun k l h=>ag8.next (k:=k) (l:=l) h);have H0:Hid (ag8 0 ((List.replicate 256 (0:UInt8)).set 0 (adL 0))):=ag8.begin;generalize (List.replicate 256 (0:UInt8)).set 0 (adL 0)=L0 at *;generalize hW:wr.alloc (.cells Y 283)=W1 at *;have HW:=Lib.hid hW;have hne:w.heap.size≠gb:=by omega
   have hle:w.heap.size≤gb:=by omega
   obtain ⟨W2,hW2⟩:∃ W2,W1.setCell ⟨gb,0,none⟩ (.int .u8 ((adL 0).toNat:Int))=W2:=⟨_,rfl⟩;rw[hW2] at B1 k2 P2;go_wp2_with fail;refine hsp.mono ?_;rintro _ _ ⟨rfl,rfl⟩;clear z1 z2;go_wp2_with (refine aca Tryz.underlying282 (by kernel_rfl) rfl (.tmp 1) rfl w.heap.size abR rfl P2 abh ?_)
   clear hW HW P1 k1 hs1 c0 f0 hgb B0 hsp hW2 HN HL HA HY hP hk hs;go_loopw[21] (fun p wt=>∃ (k:Nat) (l:List UInt8),k≤255∧p=.int .i64 k∧Hid (ag8 k l)∧By 283 wt gb l∧By 282 wt w.heap.size abR∧Kp w wt) (fun p _=>255 - (intOf p).toNat)
   case atStart=>exact ⟨0,L0,by omega,rfl,H0,B1,P2,k2⟩
   case round=>
    clear B1 P2 k2;obtain ⟨wt,rfl⟩:∃ wt,wt=wr:=⟨_,rfl⟩;obtain ⟨k,l,hk,rfl,HBX,hB,hP,hkp⟩:=hrel;by_cases hlt:k<255
    ·have hnx:=Lib.hid (HF.out k l HBX.out hlt)
     have hll:l.length=256:=HBX.out.1;obtain ⟨m,hm⟩:∃ m,(255 - k) % 255=m:=⟨_,rfl⟩;have hm255:m<255:=by omega
     have c2:=hP.cell m (by rw[abh];exact hm255);rw[show abR.getD m 0=p3B m from adt 255 p3B m hm255] at c2;have hX:=ag6 k;have hXl:=ahD k;have ht:=aik (p3B m) wt;rw[hm,← hX] at hnx;rw[← hX] at hXl;have c3:=hB.cell (p3B k).toNat (by rw[hll];exact hXl);have f3:=hB.frozen (p3B k).toNat;have i1:IntKind.i64.wrap (255 - (k:Int))=255 - (k:Int):=IntWalk.i64_in _ (by omega);have i2:(255 - (k:Int)).tmod 255=(m:Int):=by rw[Int.tmod_eq_emod_of_nonneg (by omega)];omega
     have i3:(255 - (k:Int)) % 255=(m:Int):=by omega
     have i4:(m:Int)<255:=by omega
     have i5:(k:Int)<255:=by omega
     have i6:((p3B k).toNat:Int)<256:=by omega
     have i8:0≤(m:Int):=by omega
     have hidx:∀ W,(Instr.index 282 (.agg (aaz abR)) (.int .i64 k)).run Tryz.prog W=.ok (.int .u8 ((p3B k).toNat:Int)) W:=fun W=>by
      obtain ⟨ie,hie,hsz⟩:=ara;have hg:=amL abR k (by rw[abh];exact hlt);rw[show abR.getD k 0=p3B k from adt 255 p3B k hlt] at hg;exact adm W 282 5 255 ie _ Tryz.underlying282 hie hsz Tryz.underlying5 rfl _ (by rw[abi,abh]) k hlt _ hg
     have hB2:=hB.set (p3B k).toNat (adL (p3B m)) rfl;have hP2:By 282 (wt.setCell ⟨gb,(p3B k).toNat,none⟩ (.int .u8 ((adL (p3B m)).toNat:Int))) w.heap.size abR:=(Below.heap_setCell wt ⟨gb,_,none⟩ _ w.heap.size hne).trans hP;have hkp2:=Below.setCell hkp (p:=⟨gb,(p3B k).toNat,none⟩) hle (.int .u8 ((adL (p3B m)).toNat:Int));clear hm hX hXl;generalize hZ:adL (p3B m)=Z at *;generalize hY:p3B m=Y at *;generalize hXX:p3B k=X at *;generalize hL2:l.set X.toNat Z=l2 at *;clear hZ hY hXX hL2 hP hB hkp;go_wp2_with (go_at_call 263;refine ht.mono ?_;rintro _ _ ⟨rfl,rfl⟩)
     go_roundw
     case rel=>exact ⟨k+1,l2,by omega,by go_num,hnx,hB2,hP2,hkp2⟩
     case measure=>simp[intOf];omega
    ·obtain rfl:k=255:=by omega
     have hl:=HBX.out.all;rw[hl] at hB;go_wp2_with fail;go_ret;exact ⟨⟨_,rfl,hB,hle⟩,hkp⟩
end Go.Proofs.YthmhklmkgkfcpaaGreatDoor
