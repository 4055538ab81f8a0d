import Derived.Test.YthmhklmkgkfcpaaGreatDoorT1
import Derived.Test.YthmhklmkgkfcpaaGreatDoorT2
import Derived.Test.YthmhklmkgkfcpaaGreatDoorT4
import Derived.Test.YthmhklmkgkfcpaaGreatDoorT7
import Derived.Test.YthmhklmkgkfcpaaGreatDoorT8
import Derived.Test.YthmhklmkgkfcpaaGreatDoorT9
import Derived.Lib.AppendZerosOnto
set_option linter.unusedVariables false
set_option linter.unusedSimpArgs false
set_option maxHeartbeats 8000000
set_option maxRecDepth 100000
namespace Go.Proofs.YthmhklmkgkfcpaaGreatDoor
open Go.RowKit Go.ChangeShapes Go.WideShapes Go.Deep
def Vals (w:World)(v:Value)(us:List Value):Prop:=
 ∃ a c,v=.slice a us.length c∧us.length≤c∧c≤maxLen∧(a=none→c=0) ∧
  ∀ x,a=some x→∀ i,(h:i<us.length)→w.cell? (x.add i)=some (us[i]'h)
theorem Vals.kp {w w':World}{v:Value}{us:List Value}(h:Vals w v us)(k:Kp w w'):Vals w' v us:=by
 obtain ⟨a,c,rfl,h1,h2,h3,h4⟩:=h;exact ⟨a,c,rfl,h1,h2,h3,fun x hx i hi=>k.cell (h4 x hx i hi)⟩
theorem Vals.shape {w:World}{v:Value}{us:List Value}(h:Vals w v us):∃ a c,v=.slice a us.length c∧us.length≤c∧c≤maxLen:=by
 obtain ⟨a,c,e,h1,h2,_⟩:=h;exact ⟨a,c,e,h1,h2⟩
theorem Vals.nil (w:World):Vals w (.slice none 0 0) []:=⟨none,0,rfl,Nat.le_refl _,Nat.zero_le _,fun _=>rfl,fun x hx=>by cases hx⟩
theorem Vals.at {w:World}{a:Option Addr}{n c:Nat}{us:List Value}(h:Vals w (.slice a n c) us)(k:Nat)(hk:k<n):
  ∃ b off,a=some ⟨b,off,none⟩∧b<w.heap.size∧∀ i,i<n→w.cell? ⟨b,off+i,none⟩=some (us.getD i (.bool false)):=by
 obtain ⟨a',c',e,h1,h2,h3,h4⟩:=h
 simp only[Value.slice.injEq] at e
 obtain ⟨rfl,rfl,rfl⟩:=e
 cases a with
 | none=>have:=h3 rfl;omega
 | some x=>
  obtain ⟨b,off,spot⟩:=x
  have h0:=h4 _ rfl 0 (by omega)
  have hs:spot=none:=by simpa [Addr.add] using World.cell?_spot h0
  subst hs
  refine ⟨b,off,rfl,World.block_lt_of_cell? w _ h0,fun i hi=>?_⟩
  have:=h4 _ rfl i hi
  rw[List.getD_eq_getElem?_getD,List.getElem?_eq_getElem hi,Option.getD_some,← this]
  congr 1
  unfold Addr.add
  split <;> simp_all
theorem Vals.own {w:World}{B:Nat}{e:TypeId}{v:Value}{us:List Value}(h:w.ownsRow B e 1 v us.length us):Vals w v us:=by
 rcases h.2 with ⟨rfl,h0⟩ | ⟨g,cap,cur,rfl,hb,hg,hn,hm,hs,ht⟩
 ·exact ⟨none,0,by rw[h0],by omega,Nat.zero_le _,fun _=>rfl,fun x hx=>by cases hx⟩
 ·refine ⟨_,cap,rfl,hn,hm,fun h=>(by cases h),fun x hx i hi=>?_⟩
  cases hx;have e:(⟨g,0,none⟩:Addr).add i=⟨g,i,none⟩:=by unfold Addr.add;split <;> simp_all
  rw[e,cell_of_row w g i _ _ _ hg];have hx:us[i]?=some us[i]:=List.getElem?_eq_getElem hi;rw[← hx,← ht,List.getElem?_take_of_lt (by omega)];simp
def RL (w:World)(v:Value)(ls:List (List UInt8)):Prop:=∃ us,Vals w v us∧us.length=ls.length∧∀ i,i<ls.length→Rd w (us.getD i (.bool false)) (ls.getD i [])
theorem RL.kp {w w':World}{v:Value}{ls:List (List UInt8)}(h:RL w v ls)(k:Kp w w'):RL w' v ls:=by
 obtain ⟨us,h1,h2,h3⟩:=h;exact ⟨us,h1.kp k,h2,fun i hi=>(h3 i hi).kp k⟩
theorem RL.shape {w:World}{v:Value}{ls:List (List UInt8)}(h:RL w v ls):∃ a c,v=.slice a ls.length c∧ls.length≤c∧c≤maxLen:=by
 obtain ⟨us,h1,h2,h3⟩:=h;rw[← h2];exact h1.shape
theorem RL.at {w:World}{a:Option Addr}{n c:Nat}{ls:List (List UInt8)}(h:RL w (.slice a n c) ls)(k:Nat)(hk:k<n):
  ∃ b off,a=some ⟨b,off,none⟩∧b<w.heap.size∧∀ i,i<n→∃ u,w.cell? ⟨b,off+i,none⟩=some u∧Rd w u (ls.getD i []):=by
 obtain ⟨us,h1,h2,h3⟩:=h;obtain ⟨b,off,ha,hb,hc⟩:=h1.at k hk;have hn:n=us.length:=by
  obtain ⟨a',c',e,_⟩:=h1.shape;simp only[Value.slice.injEq] at e;exact e.2.1
 exact ⟨b,off,ha,hb,fun i hi=>⟨_,hc i hi,h3 i (by omega)⟩⟩
theorem RL.cons {w:World}{B:Nat}{e:TypeId}{v u:Value}{l:List UInt8}{us:List Value}{ls:List (List UInt8)}(h:w.ownsRow B e 1 v (u :: us).length (u :: us))(hu:Rd w u l)(hl:us.length=ls.length)
  (hr:∀ i,i<ls.length→Rd w (us.getD i (.bool false)) (ls.getD i [])):RL w v (l :: ls):=by
 refine ⟨u :: us,Vals.own h,by simp[hl],fun i hi=>?_⟩
 cases i with
 | zero=>simpa using hu
 | succ i=>simpa using hr i (by simpa using hi)
section
variable {H : Type} {enc : TypeId × Value → H} {P : Program} {w : World} {base : Nat} {spare : Nat → Bool} {held : Bool}
end
end Go.Proofs.YthmhklmkgkfcpaaGreatDoor
namespace Go.Proofs.YthmhklmkgkfcpaaGreatDoor
open Go.RowKit
theorem anB (n:Int)(w:World):
  Calls Tryz.prog 249 #[.int .i64 n] w fun e w'=>(∃ v,e=.returned v∧Rd w' v (ajr n))∧Kp w w':=by
 by_cases h0:0≤n∧n≤1125899906842624
 ·have hp:ajr n=pad n.toNat:=if_pos h0
  rw[hp];clear hp;obtain ⟨h0,h1⟩:=h0;obtain ⟨n,rfl⟩:=Int.eq_ofNat_of_zero_le h0;rw[Int.toNat_natCast];obtain ⟨f,hf⟩:∃ f,fill n=f:=⟨_,rfl⟩;have hfl:=afl n;have hl:=acs n;have hst:=anx n;have hget:=aqu n;have hfi:(119 - (n:Int) % 64).tmod 64=(f:Int):=by
   rw[Int.tmod_eq_emod_of_nonneg (by omega),← hf];unfold fill;omega
  rw[hf] at hfl hl hst hget;have hfi2:(119 - (n:Int) % 64) % 64=(f:Int):=by rw[← hfi,Int.tmod_eq_emod_of_nonneg (by omega)]
  have HG:=Lib.hid hget;have HL:=Lib.hid hl;have HS:=Lib.hid hst;have HB:=Lib.hid h1;have hw:IntKind.i64.wrap (8*(n:Int))=8*(n:Int):=by rw[IntKind.wrap_i64];omega
  clear hf hget hl hst;go_enter Tryz.func249,Tryz.ntmps249;have hz:((9+f:Nat):Int)=1+(f:Int)+8:=by omega
  have HZ:=Lib.hid hz;clear hz;go_wp2_with (at_make;refine aaS (z:=.int .u8 0) (b:=1) Tryz.underlying24 Tryz.info5 rfl (by decide) rfl _ _ rfl (9+f) (by rw[HZ.out];rfl) (by rw[HZ.out];rfl) (by omega) ?_;intro w1 hw1;have HW1:=Lib.hid hw1;clear hw1;have hB0:By 5 w1 w.heap.size (List.replicate (9+f) 0):=(by rw[HW1.out];exact By.fresh _ _ _);have hk0:Kp w w1:=(by rw[HW1.out];exact (Kp.refl w).alloc _);have c0:=hB0.cell 0 (by simp;omega);have f0:=hB0.frozen 0)
  have hB1:By 5 (w1.setCell ⟨w.heap.size,0,none⟩ (.int .u8 128)) w.heap.size (mixB (List.replicate (9+f) 0) (pad n) (1+f)):=hB0.set 0 128 HS.out;have hk1:Kp w (w1.setCell ⟨w.heap.size,0,none⟩ (.int .u8 128)):=Below.setCell hk0 (by simp) _;clear hB0 hk0 c0 f0 HW1 hfi hfi2;go_loopw[22] (fun i wr=>∃ k:Nat,k≤8∧i=.int .i64 k∧By 5 wr w.heap.size (mixB (List.replicate (9+f) 0) (pad n) (1+f+k))∧Kp w wr) (fun i _=>8 - (intOf i).toNat)
  case atStart=>exact ⟨0,by omega,rfl,hB1,hk1⟩
  case round=>
   clear hB1 hk1;obtain ⟨k,hk,rfl,hB,hkp⟩:=hrel;by_cases hlt:k<8
   ·have hset:=acm (List.replicate (9+f) 0) (pad n) (1+f+k) (by rw[HL.out];simp) (by simp;omega) _ (HG.out k hlt)
    have hlen:(mixB (List.replicate (9+f) 0) (pad n) (1+f+k)).length=9+f:=by rw[aaV _ _ _ (by rw[HL.out];simp) (by simp;omega)];simp
    have c0:=hB.cell (1+f+k) (by rw[hlen];omega);have f0:=hB.frozen (1+f+k);have e1:(8*(7 - (k:Int))).toNat=8*(7 - k):=by omega
    have e2:(8*(n:Int)) / 2 ^ (8*(7 - k))=((8*n / 256 ^ (7 - k):Nat):Int):=by
     have:(256:Nat) ^ (7 - k)=2 ^ (8*(7 - k)):=by rw[Nat.pow_mul]
     rw[this];simp
    obtain ⟨X,hX⟩:∃ X,8*n / 256 ^ (7 - k)=X:=⟨_,rfl⟩;rw[hX] at e2 hset;have hv:((UInt8.ofNat X).toNat:Int)=(X:Int) % 256:=by simp
    have hi1:(1+(f:Int)+(k:Int))<9+(f:Int):=by omega
    have hi2:(1+(f:Int)+(k:Int)).toNat=1+f+k:=by omega
    have H7:(0:Int)≤7 - (k:Int):=by omega
    have HS2:=Lib.hid (And.intro hset hv);clear hset hX hlen hv;go_wp2_with fail;go_roundw
    case rel=>
     refine ⟨k+1,by omega,by go_num,?_,Below.setCell hkp (by simp) _⟩;have h:=hB.set (1+f+k) (UInt8.ofNat X) HS2.out.1;rw[HS2.out.2] at h;exact h
    case measure=>simp[intOf];omega
   ·obtain rfl:k=8:=by omega
    have hm:mixB (List.replicate (9+f) 0) (pad n) (1+f+8)=pad n:=by
     rw[show 1+f+8=(pad n).length by rw[HL.out];omega];exact adi _ _ (by rw[HL.out];simp)
    rw[hm] at hB;clear hm;go_wp2_with fail;go_ret;exact ⟨⟨_,rfl,hB.rdAll (by rw[HL.out]) (Nat.le_refl _) (by unfold maxLen;omega)⟩,hkp⟩
 ·have hp:ajr n=[]:=if_neg h0
  rw[hp];by_cases h:n<0
  ·go_enter Tryz.func249,Tryz.ntmps249
   go_wp2;go_ret;exact ⟨⟨_,rfl,none,0,rfl,Nat.le_refl _,Nat.zero_le _,fun _=>rfl,fun x hx=>by cases hx⟩,Kp.refl _⟩
  ·have h2:1125899906842624<n:=by omega
   clear h0;go_enter Tryz.func249,Tryz.ntmps249;go_wp2;go_ret;exact ⟨⟨_,rfl,none,0,rfl,Nat.le_refl _,Nat.zero_le _,fun _=>rfl,fun x hx=>by cases hx⟩,Kp.refl _⟩
theorem al3 (n:Int)(w:World):
  Calls Tryz.prog 223 #[.int .i64 n] w fun e w'=>(∃ v,e=.returned v∧Rd w' v (ajr n))∧Kp w w':=by
 have U:=ar0;by_cases h0:0≤n∧n≤1125899906842624
 ·have hp:ajr n=pad n.toNat:=if_pos h0
  rw[hp];clear hp;obtain ⟨h0,h1⟩:=h0;obtain ⟨n,rfl⟩:=Int.eq_ofNat_of_zero_le h0;rw[Int.toNat_natCast];obtain ⟨f,hf⟩:∃ f,fill n=f:=⟨_,rfl⟩;have hfl:=afl n;have hfz:∀ k:Nat,k≤f→(((n:Int)+((k:Int)+1)+8) % 64=0↔k=f):=fun k hk=>by
   have:f=(119 - n % 64) % 64:=hf.symm;omega
  have hp:pad n=128 :: List.replicate f 0++be 8 (8*n):=by unfold pad;rw[hf]
  rw[hf] at hfl;have HFZ:=Lib.hid hfz;have HP:=Lib.hid hp;have HB:=Lib.hid h1;have hw:IntKind.i64.wrap (8*(n:Int))=8*(n:Int):=by rw[IntKind.wrap_i64];omega
  clear hf hfz hp;go_enter Tryz.func223,Tryz.ntmps223;go_wp2_with fail;go_loopw[3] (fun v wr=>∃ k:Nat,k≤f∧Ow 5 wr w.heap.size v (128 :: List.replicate k 0)∧Kp w wr) (fun v wr=>f - (match v with | .slice _ n _=>n - 1 | _=>0))
  case atStart=>exact ⟨0,by omega,Ow.lit w 5 w.heap.size 1 _ [128] (Nat.le_refl _) rfl (by decide) rfl,(Kp.refl w).alloc _⟩
  case round=>
   obtain ⟨k,hk,hown,hkp⟩:=hrel;obtain ⟨a,c,rfl,hc1,hc2⟩:=hown.rd.shape;have hl:(128 :: List.replicate k 0:List UInt8).length=k+1:=by simp
   rw[hl] at hown hc1 ⊢;unfold maxLen at hc2;by_cases hlt:k<f
   ·have hne:¬((n:Int)+((k:Int)+1)+8) % 64=0:=by rw[HFZ.out k hk];omega
    go_wp2_with (at_builtin;refine aae U rfl _ _ rfl w.heap.size _ _ rfl (hown.kp ((Kp.refl _).alloc _)) _ [0] rfl (Rd.box _ _ _ 0 rfl) ?c1 ?c2 ?_;rotate_right;intro v' w2 ho2 hg _)
    case c1=>simp;omega
    case c2=>have:=hkp.size;simp;omega
    have he:(128 :: List.replicate k 0++[0]:List UInt8)=128 :: List.replicate (k+1) 0:=by rw[List.replicate_succ',List.cons_append]
    rw[he] at ho2;go_roundw
    case rel=>exact ⟨k+1,by omega,ho2,Kp.grown (hkp.alloc _) hg hown.own_ge⟩
    case measure=>
     obtain ⟨a',c',rfl,_,_⟩:=ho2.rd.shape;simp;omega
   ·obtain rfl:k=f:=by omega
    have hne:((n:Int)+((k:Int)+1)+8) % 64=0:=(HFZ.out k (Nat.le_refl _)).2 rfl;clear hlt;go_wp2_with fail;go_loopw[3,5] (fun v i wr=>∃ j:Nat,j≤8∧i=.int .i64 (56 - 8*(j:Int))∧Ow 5 wr w.heap.size v (128 :: List.replicate k 0++(be 8 (8*n)).take j)∧Kp w wr) (fun _ i _=>(64+intOf i).toNat)
    case atStart=>exact ⟨0,by omega,rfl,by rw[List.take_zero,List.append_nil];exact hown,hkp⟩
    case round=>
     clear hown hkp hne hc1 hc2;obtain ⟨j,hj,rfl,hown,hkp⟩:=hrel;by_cases hlt:j<8
     ·have e2:(8*(n:Int)) / 2 ^ (56 - 8*j)=((8*n / 256 ^ (7 - j):Nat):Int):=by
       have:(256:Nat) ^ (7 - j)=2 ^ (56 - 8*j):=by rw[show 56 - 8*j=8*(7 - j) by omega,Nat.pow_mul]
       rw[this];simp
      have e1:(56 - 8*(j:Int)).toNat=56 - 8*j:=by omega
      have hj0:0≤56 - 8*(j:Int):=by omega
      have hget:=anw 8 (8*n) j hlt;have htk:(be 8 (8*n)).take (j+1)=(be 8 (8*n)).take j++[UInt8.ofNat (8*n / 256 ^ (7 - j))]:=by
       have hlt':j<(be 8 (8*n)).length:=by rw[aak];exact hlt
       rw[List.take_succ_eq_append_getElem hlt'];rw[List.getElem?_eq_getElem hlt'] at hget;rw[Option.some.inj hget]
      obtain ⟨X,hX⟩:∃ X,8*n / 256 ^ (7 - j)=X:=⟨_,rfl⟩;rw[hX] at e2 htk;obtain ⟨bx,hbx⟩:∃ b:UInt8,UInt8.ofNat X=b:=⟨_,rfl⟩;have hv:(X:Int) % 256=(bx.toNat:Int):=by rw[← hbx];simp
      rw[hbx] at htk;have hlen:(128 :: List.replicate k 0++(be 8 (8*n)).take j:List UInt8).length≤100:=by simp[aak];omega
      have HT:=Lib.hid htk;obtain ⟨L,hL⟩:∃ L,(128 :: List.replicate k 0++(be 8 (8*n)).take j:List UInt8)=L:=⟨_,rfl⟩;rw[hL] at hown hlen;have HL:=Lib.hid hL;have hu8:IntKind.u8.wrap (X:Int)=(bx.toNat:Int):=by rw[IntKind.wrap_u8,hv]
      have HB2:=Lib.hid hbx;clear htk hget hX hL hbx;go_wp2_with (at_builtin;refine aae U rfl _ _ rfl w.heap.size _ _ rfl (hown.kp ((Kp.refl _).alloc _)) _ [bx] rfl (Rd.box _ _ _ bx rfl) ?c1 ?c2 ?_;rotate_right;intro v' w2 ho2 hg _)
      case c1=>simp;omega
      case c2=>have:=hkp.size;simp;omega
      go_roundw
      case rel=>exact ⟨j+1,by omega,by congr 1;omega,by rw[HT.out,← List.append_assoc,HL.out];exact ho2,Kp.grown (hkp.alloc _) hg hown.own_ge⟩
      case measure=>simp[intOf];omega
     ·obtain rfl:j=8:=by omega
      rw[List.take_of_length_le (by rw[aak];exact Nat.le_refl _)] at hown;rw[← HP.out] at hown;go_wp2_with fail;go_ret;exact ⟨⟨_,rfl,hown.rd⟩,hkp⟩
 ·have hp:ajr n=[]:=if_neg h0
  rw[hp];by_cases h:n<0
  ·go_enter Tryz.func223,Tryz.ntmps223
   go_wp2;go_ret;exact ⟨⟨_,rfl,none,0,rfl,Nat.le_refl _,Nat.zero_le _,fun _=>rfl,fun x hx=>by cases hx⟩,Kp.refl _⟩
  ·have h2:1125899906842624<n:=by omega
   clear h0;go_enter Tryz.func223,Tryz.ntmps223;go_wp2;go_ret;exact ⟨⟨_,rfl,none,0,rfl,Nat.le_refl _,Nat.zero_le _,fun _=>rfl,fun x hx=>by cases hx⟩,Kp.refl _⟩
def adX (s:S8)(i:Nat):List UInt8:=(s.list.take i).flatMap ahV
theorem adY (s:S8)(i:Nat)(h:i<8):adX s (i+1)=adX s i++ahV (s.list.getD i 0):=by
 unfold adX;have h':i<s.list.length:=h;rw[List.take_succ_eq_append_getElem h',List.flatMap_append,List.getD_eq_getElem?_getD,List.getElem?_eq_getElem h'];simp
theorem ab7 (s:S8):∀ i,i≤8→(adX s i).length=4*i
 | 0,_=>rfl
 | i+1,h=>by rw[adY s i h,List.length_append,ab7 s i (by omega)];simp[ahV];omega
theorem afI (s:S8):s.bytes.length=32:=ab7 s 8 (by omega)
theorem ajz (x:UInt32):∃ b0 b1 b2 b3:UInt8,ahV x=[b0,b1,b2,b3]∧IntKind.u8.wrap (ar1 x / 16777216)=(b0.toNat:Int)∧IntKind.u8.wrap (ar1 x / 65536)=(b1.toNat:Int)∧IntKind.u8.wrap (ar1 x / 256)=(b2.toNat:Int)∧IntKind.u8.wrap (ar1 x)=(b3.toNat:Int):=by
 refine ⟨_,_,_,_,rfl,?_,?_,?_,?_⟩ <;> rw[IntKind.wrap_u8] <;> unfold ar1 <;> simp
theorem aco (s:S8)(w:World):
  Calls Tryz.prog 250 #[.agg (aam s.list)] w fun e w'=>(∃ v,e=.returned v∧Ow 5 w' w.heap.size v s.bytes)∧Kp w w':=by
 have U:=ar0;obtain ⟨i0,hi,hz0,hz1,hz2⟩:=info_parts Tryz.info5;have HBB:i0.bytes=1:=hz2;have HB3:=Lib.hid HBB;clear HBB hz2;have hB0:Arr 252 (w.alloc (.cells (aam s.list) 252)) w.heap.size s.list:=Arr.new _ w _ s.list rfl;go_enter Tryz.func250,Tryz.ntmps250;go_wp2_with (first
  | (at_make;refine wpList_make_own _ rfl _ _ 24 rfl w.heap.size 5 i0 (.int .u8 0) 1 Tryz.underlying24 hi hz0 hz1 _ _ _ 32 rfl rfl rfl ?b1 ?b2 ?b3 ?_;rotate_right;intro w1 hown hgr;have hkw:Kp (w.alloc (.cells (aam s.list) 252)) w1:=Below.grown (Below.refl _ _) hgr (Nat.le_refl _) (fun k e=>by cases e);have hB1:=hB0.kp hkw;clear hgr)
  | (refine aaC Tryz.underlying252 (by kernel_rfl) rfl (.tmp 1) rfl w.heap.size s.list rfl hB1 rfl ?_))
 case b1=>rw[HB3.out];omega
 case b2=>unfold maxLen;omega
 case b3=>simp
 have ho1:Ow 5 w1 w.heap.size (.slice (some ⟨w.heap.size+1,0,none⟩) 0 32) []:=by
  rw[World.size_alloc] at hown;exact hown
 have hk1:Kp w w1:=((Kp.refl w).alloc _).trans hkw;clear hown hkw hB0 hB1 hz0 hz1 hi HB3;go_loopw[3,8] (fun v i wr=>∃ k:Nat,k≤8∧i=.int .i64 k∧Ow 5 wr w.heap.size v (adX s k)∧Kp w wr) (fun _ i _=>8 - (intOf i).toNat)
 case atStart=>exact ⟨0,by omega,rfl,ho1,hk1⟩
 case round=>
  clear ho1 hk1;obtain ⟨k,hk,rfl,hown,hkp⟩:=hrel;by_cases hlt:k<8
  ·have hidx:∀ W,(Instr.index 252 (.agg (aam s.list)) (.int .i64 k)).run Tryz.prog W=.ok (.int .u32 (ar1 (s.list.getD k 0))) W:=fun W=>by
    obtain ⟨ie,hie,hsz⟩:=alw;exact adj W 252 247 8 ie _ Tryz.underlying252 hie hsz Tryz.underlying247 rfl _ rfl k hlt _ (afk s.list k hlt)
   have hs:=adY s k hlt;have hlen:=ab7 s k (by omega);generalize s.list.getD k 0=x at *;obtain ⟨b0,b1,b2,b3,h4,v0,v1,v2,v3⟩:=ajz x;rw[h4] at hs;generalize adX s k=L at *;have HS:=Lib.hid hs;have HL:=Lib.hid hlen;clear hs hlen h4;generalize aam s.list=cs at *;go_wp2_with (at_builtin;refine aae U rfl _ _ rfl w.heap.size _ _ rfl (hown.kp ((Kp.refl _).alloc _)) _ [b0,b1,b2,b3] rfl (Ow.lit _ 5 0 4 _ _ (Nat.zero_le _) rfl (by decide) rfl).rd ?c1 ?c2 ?_;rotate_right;intro v' w2 ho2 hg _)
   case c1=>rw[HL.out];simp;omega
   case c2=>have:=hkp.size;simp;omega
   go_roundw
   case rel=>exact ⟨k+1,by omega,by go_num,by rw[HS.out];exact ho2,Kp.grown (hkp.alloc _) hg hown.own_ge⟩
   case measure=>simp[intOf];omega
  ·obtain rfl:k=8:=by omega
   go_wp2_with fail;go_ret;exact ⟨⟨_,rfl,hown⟩,hkp⟩
def unB (l:List Int):List UInt8:=l.flatMap fun i=>be 2 i.toNat
def adk (n:Nod):List UInt8:=
 if n.kind=1 then [1]++be 2 n.name.toNat++rowB n.pub++rowB n.hash
 else if n.kind=2 then [2]++rowB n.pub++rowB n.hash++rowB (unB n.un)
 else [0]
structure adN (n:Nod):Prop where
 kind:n.kind=0∨n.kind=1∨n.kind=2
 name:0≤n.name∧n.name≤65535
 pub:n.pub.length≤40
 hash:n.hash.length≤40
 unl:n.un.length≤100
 un:∀ i∈n.un,0≤i∧i≤1023
theorem afn (l:List Int):(unB l).length=2*l.length:=by
 unfold unB
 induction l with
 | nil=>rfl
 | cons a l ih=>rw[List.flatMap_cons,List.length_append,ih,aak,List.length_cons];omega
theorem ao9 (l:List Int)(i:Int):unB (l++[i])=unB l++be 2 i.toNat:=by
 unfold unB;rw[List.flatMap_append];simp
theorem adZ {x:List UInt8}(h:x.length≤1000):(rowB x).length≤x.length+2:=by
 rw[agt (by omega),ags];split
 ·omega
 ·rw[if_pos (by omega)];omega
theorem aeR {n:Nod}(h:adN n):(adk n).length≤300∧1≤(adk n).length:=by
 have h1:=adZ (x:=n.pub) (by have:=h.pub;omega);have h2:=adZ (x:=n.hash) (by have:=h.hash;omega);have h3:=adZ (x:=unB n.un) (by rw[afn];have:=h.unl;omega);have h4:=h.pub;have h5:=h.hash;have h6:=h.unl;rw[afn] at h3;unfold adk;split
 ·simp only[List.length_append,aak,List.length_cons,List.length_nil];omega
 ·split
  ·simp only[List.length_append,List.length_cons,List.length_nil];omega
  ·simp
def afo (n:Nod)(g:List Int):Nod:=⟨n.kind,n.name,n.pub,n.un.filter fun i=>decide (i∉g),n.hash⟩
theorem adN.less {n:Nod}(h:adN n)(g:List Int):adN (afo n g):=
 ⟨h.kind,h.name,h.pub,h.hash,Nat.le_trans (List.length_filter_le _ _) h.unl,fun i hi=>h.un i (List.mem_filter.1 hi).1⟩
theorem adN.blank:adN aao:=⟨.inl rfl,by decide,by decide,by decide,by decide,fun i hi=>by cases hi⟩
def digF (t:List Nod)(g:List Int):Nat→Nat→List UInt8
 | 0,q=>aaH ([1]++be 2 q++adk (if (q:Int)∈g then aao else ats t (nd 0 q)))
 | j+1,q=>aaH ([2]++adk (afo (ats t (nd (j+1) q)) g)++rowB (digF t g j (2*q))++rowB (digF t g j (2*q+1)))
theorem ahZ (l:List UInt8):(aaH l).length=32:=by
 unfold aaH;exact afI _
theorem aix (t:List Nod)(g:List Int)(j q:Nat):(digF t g j q).length=32:=by
 cases j <;> exact ahZ _
structure abo (t:List Nod)(K:Nat):Prop where
 le:K≤10
 len:t.length=2 ^ (K+1) - 1
 node:∀ x,adN (ats t x)
 par:∀ x,(ats t x).kind=2→x % 2=1
def aboE (t:List Nod)(x side:Int):Int:=
 if 0≤x∧x<t.length∧0≤side∧side≤1 then (if (ats t x.toNat).kind=2 then 0 else 11) else 1
def othQ (side:Int)(q:Nat):Nat:=if side=0 then 2*q+1 else 2*q
def aboT (t:List Nod)(x:Nat)(side:Int):List UInt8:=
 aaH ([3]++rowB (ats t x).pub++rowB (ats t x).hash++rowB (digF t (ats t x).un (lev x - 1) (othQ side (qOf x))))
def aboV (t:List Nod)(x side:Int):List UInt8:=if aboE t x side=0 then aboT t x.toNat side else []
def adO (n:Nod)(h:List UInt8):Nod:=⟨n.kind,n.name,n.pub,n.un,h⟩
def layS (i:Nat)(s:List Nod × List UInt8)(x:Nat):List Nod × List UInt8:=
 if (ats s.1 x).kind=2 then
  (s.1.set x (adO (ats s.1 x) s.2),aboV (s.1.set x (adO (ats s.1 x) s.2)) (x:Int) (if x<2*i then 1 else 0))
 else s
def layD (t:List Nod)(i:Nat):List Nod × List UInt8:=(pathT t i).reverse.foldl (layS i) (t,[])
def layE (t:List Nod)(i:Int):Int:=if aas t i then 0 else 11
def layV (t:List Nod)(i:Int):List Nod:=
 if aas t i then (layD t i.toNat).1.set (2*i.toNat) (adO (ats (layD t i.toNat).1 (2*i.toNat)) (layD t i.toNat).2) else t
theorem aiy (l:List UInt8):(acB l).length=l.length+9+fill l.length:=by unfold acB;rw[List.length_append,acs];omega
theorem ajA (l:List UInt8):(acB l).length=64*((acB l).length / 64):=by
 have:=ajq l.length;have h:(acB l).length=l.length+(pad l.length).length:=by unfold acB;rw[List.length_append]
 omega
theorem aa3 (s:S8)(l:List UInt8)(k:Nat):aaA s l (k+1)=comp keyL (aaA s l k) ((l.drop (64*k)).take 64):=by rw[aaA]
theorem ajB (n:Nat)(h:n≤2000):ajr (n:Int)=pad n:=by
 unfold ajr;rw[if_pos (by omega),Int.toNat_natCast]
theorem apc (x:Int)(s:S8)(v:Value)(all:List UInt8)(at':Nat)(gk ck:Nat)(k:List UInt32)(w:World)(h:Rd w v all)(hl:at'+64≤all.length)(hk:Arr 247 w gk k)(hkl:k.length=64)(hx:x=at'):
  Calls Tryz.prog 226 #[.agg (aam s.list),v,.int .i64 x,.slice (some ⟨gk,0,none⟩) 64 ck] w fun e w'=>e=.returned (.agg (aam (comp k s ((all.drop at').take 64)).list))∧Kp w w':=by
 subst hx;exact ao8 s v all at' gk ck k w h hl hk hkl
theorem akz (x:UInt32):∃ b0 b1 b2 b3:UInt8,ahV x=[b0,b1,b2,b3]∧IntKind.u8.wrap (ar1 x / 16777216)=(b0.toNat:Int)∧IntKind.u8.wrap (ar1 x / 65536 % 256)=(b1.toNat:Int)∧IntKind.u8.wrap (ar1 x / 256 % 256)=(b2.toNat:Int)∧IntKind.u8.wrap (ar1 x % 256)=(b3.toNat:Int):=by
 refine ⟨_,_,_,_,rfl,?_,?_,?_,?_⟩ <;> rw[IntKind.wrap_u8] <;> unfold ar1 <;> simp
theorem afp (v:Value)(l:List UInt8)(w:World)(h:Rd w v l)(hl:l.length≤2000):
  Calls Tryz.prog 185 #[v] w fun e w'=>(∃ v',e=.returned v'∧Ow 5 w' w.heap.size v' (aaH l))∧Kp w w':=by
 have U:=ar0;obtain ⟨a,c,rfl,h1,h2⟩:=h.shape;unfold maxLen at h2;have hpl:=aiy l;have hpw:=ajA l;have hfl:=afl l.length;obtain ⟨P,hP⟩:∃ P,acB l=P:=⟨_,rfl⟩;have hPP:l++pad l.length=P:=hP;have hdg:aaH l=(aaA abi P (P.length / 64)).bytes:=by unfold aaH;rw[hP]
 rw[hdg];rw[hP] at hpl hpw;obtain ⟨N,hN⟩:∃ N,P.length / 64=N:=⟨_,rfl⟩;rw[hN] at hpw ⊢;have HP:=Lib.hid hPP;have HL:=Lib.hid hpw;have hN2:N≤40:=by omega
 have hPL:P.length≤2600:=by omega
 have hpo:=ajB l.length hl;have HPO:=Lib.hid hpo;have hlb:=hl;clear hdg hP hPP hpw hpl hN hpo hfl;go_enter Tryz.func185,Tryz.ntmps185;go_wp2_with (first
  | (at_builtin;refine aae U rfl _ _ rfl w.heap.size _ _ rfl (Ow.lit w 5 w.heap.size 0 #[] [] (Nat.le_refl _) rfl (by decide) rfl) _ l rfl (h.kp ((Kp.refl w).alloc _)) ?c1 ?c2 ?_;rotate_right;intro v1 w1 ho1 hg1 _;have hk1:Kp w w1:=Kp.grown ((Kp.refl w).alloc _) hg1 (by intro k e;cases e;exact Nat.le_refl _);clear hg1)
  | (go_at_call 223;refine (al3 _ _).mono ?_;rintro e w2 ⟨⟨vp,rfl,hrp⟩,hk2⟩;rw[HPO.out] at hrp)
  | (at_builtin;refine aae U rfl _ _ rfl w.heap.size _ _ rfl (ho1.kp hk2) _ (pad l.length) rfl hrp ?c3 ?c4 ?_;rotate_right;intro v2 w3 ho2 hg2 _;have hk3:Kp w w3:=Kp.grown (hk1.trans hk2) hg2 ho1.own_ge;rw[List.nil_append,HP.out] at ho2;clear hg2))
 case c1=>simp;omega
 case c2=>simp
 case c3=>have:=afl l.length;have:=acs l.length;simp;omega
 case c4=>exact (hk1.trans hk2).size
 refine (akw _).mono ?_;rintro e w4 ⟨⟨gk,rfl,hA,_⟩,hk4⟩;go_wp2_with fail;refine (ajx _).mono ?_;rintro e w5 ⟨rfl,hk5⟩;have hA5:=hA.kp hk5;have hr5:=(ho2.rd.kp hk4).kp hk5;have hkp5:Kp w w5:=(hk3.trans hk4).trans hk5;clear hA hk4 hk5 ho2 hk3 ho1 hk1 hk2 hrp;obtain ⟨a2,c2,rfl,hq1,hq2⟩:=hr5.shape;unfold maxLen at hq2;go_wp2_with (refine aar (by kernel_rfl) rfl rfl (.tmp 5) (.tmp 17) rfl w5.heap.size (aaD 8) abi.list rfl rfl (Arr.new _ _ _ _ rfl) rfl rfl ?_;intro w6 hR6 hbut)
 have hk6:Kp w5 w6:=hbut.below ((Kp.refl w5).alloc _) (Nat.le_refl _);clear hbut;go_loopw[6] (fun i wr=>∃ k:Nat,k≤N∧i=.int .i64 (64*(k:Int))∧Arr 252 wr w5.heap.size (aaA abi P k).list∧Kp w5 wr) (fun i _=>(64*N - (intOf i).toNat))
 case atStart=>exact ⟨0,by omega,rfl,hR6,hk6⟩
 case round=>
  clear hR6 hk6;obtain ⟨k,hkN,rfl,hR,hk⟩:=hrel;by_cases hlt:k<N
  ·have hcond:64*(k:Int)<(P.length:Int):=by rw[HL.out];omega
   have HS:=Lib.hid (apc (64*(k:Int)) (aaA abi P k) (.slice a2 P.length c2) P (64*k) gk 64 keyL wr (hr5.kp hk) (by rw[HL.out];omega) (hA5.kp hk) rfl (by simp));rw[← aa3] at HS;obtain ⟨s',hs'⟩:∃ s',aaA abi P (k+1)=s':=⟨_,rfl⟩;rw[hs'] at HS;have HS':=Lib.hid hs';clear hs';generalize aaA abi P k=s at *;go_wp2_with (refine aaC Tryz.underlying252 (by kernel_rfl) rfl (.tmp 5) rfl w5.heap.size s.list rfl hR rfl ?_)
   refine HS.out.mono ?_;rintro e w7 ⟨rfl,hk7⟩;have hR7:=hR.kp hk7;have hk8:Kp w5 w7:=hk.trans hk7;clear hR hk hk7;go_wp2_with (refine aar (by kernel_rfl) rfl rfl (.tmp 5) (.tmp 28) rfl w5.heap.size s.list s'.list rfl rfl hR7 rfl rfl ?_;intro w8 hR8 hbut)
   go_roundw
   case rel=>exact ⟨k+1,by omega,by congr 1,by rw[HS'.out];exact hR8,hbut.below hk8 (Nat.le_refl _)⟩
   case measure=>simp[intOf];omega
  ·obtain rfl:k=N:=by omega
   have hcond:¬64*(k:Int)<(P.length:Int):=by rw[HL.out];omega
   obtain ⟨s,hsn⟩:∃ s,aaA abi P k=s:=⟨_,rfl⟩;rw[hsn] at hR;have HSN:=Lib.hid hsn;clear hsn;go_wp2_with fail;rename World=>wA
   go_loopw[7,8] (fun v i wq=>∃ j:Nat,j≤8∧i=.int .i64 j∧Ow 5 wq wA.heap.size v (adX s j)∧Kp wA wq) (fun _ i _=>(8 - intOf i).toNat)
   case atStart=>exact ⟨0,by omega,rfl,Ow.nil _ _ _,Kp.refl _⟩
   case round=>
    obtain ⟨j,hj,rfl,hown,hkq⟩:=hrel;by_cases hlt2:j<8
    ·have cb:=(hR.kp hkq).cell j hlt2
     have hs:=adY s j hlt2;have hlen:=ab7 s j (by omega);generalize s.list.getD j 0=x at *;obtain ⟨b0,b1,b2,b3,h4,v0,v1',v2',v3⟩:=akz x;rw[h4] at hs;generalize adX s j=L at *;have HS:=Lib.hid hs;have HLn:=Lib.hid hlen;have q:(j:Int)<8:=by omega
     clear hs hlen h4 hcond;go_wp2_with fail;have u0:=alt x;have u1:=u_lt x;have w0:IntKind.u32.wrap ((ar1 x).tdiv 16777216)=ar1 x / 16777216:=by rw[Int.tdiv_eq_ediv_of_nonneg u0];exact aa5 _ (by omega) (by omega)
     have w1':IntKind.u32.wrap ((ar1 x).tdiv 65536)=ar1 x / 65536:=by rw[Int.tdiv_eq_ediv_of_nonneg u0];exact aa5 _ (by omega) (by omega)
     have w2':IntKind.u32.wrap ((ar1 x).tdiv 256)=ar1 x / 256:=by rw[Int.tdiv_eq_ediv_of_nonneg u0];exact aa5 _ (by omega) (by omega)
     have m1:(ar1 x / 65536).tmod 256=ar1 x / 65536 % 256:=Int.tmod_eq_emod_of_nonneg (by omega);have m2:(ar1 x / 256).tmod 256=ar1 x / 256 % 256:=Int.tmod_eq_emod_of_nonneg (by omega);have m3:(ar1 x).tmod 256=ar1 x % 256:=Int.tmod_eq_emod_of_nonneg u0;clear u0 u1;have hblt:w5.heap.size<wr.heap.size:=World.block_lt_of_cell? wr _ cb;go_region_held3 (fun W=>W.cell? ⟨w5.heap.size,j,none⟩=some (.int .u32 (ar1 x)))
      (first
       | exact cb
       | exact (((Kp.refl wr).alloc _).drew).cell cb
       | exact (((Kp.refl wr).drew).alloc _).cell cb
       | exact (Kp.grown (((Kp.refl wr).alloc _).drew) hg9 (fun k e=>absurd e (by simp))).cell cb
       | (exact cb9)
       | trace_state)
      (first
       | (refine ahn U rfl (.tmp 33) (.tmp 56) rfl wA.heap.size _ _ rfl (hown.kp ((Kp.refl _).alloc _).drew) _ 4 4 [b0,b1,b2,b3] rfl ((Ow.lit wr 5 0 4 _ _ (Nat.zero_le _) rfl (by decide) rfl).kp (Kp.refl _).drew).rd (by rw[HLn.out];simp;omega) (by have:=hkq.size;simp;omega) ?_;intro v' w9 ho9 hg9;have cb9:w9.cell? ⟨w5.heap.size,j,none⟩=some (.int .u32 (ar1 x)):=(Below.cell (Kp.grown (hkq.alloc _).drew hg9 hown.own_ge) (p:=⟨w5.heap.size,j,none⟩) (Arr.lt hR)).trans ((hR.cell j hlt2).trans (by have:=(hR.kp hkq).cell j hlt2;rw[cb] at this;exact this.symm))))
     all_goals
      go_wp2_with fail;go_roundw
      case rel=>exact ⟨j+1,by omega,by go_num,by rw[HS.out];exact ho9,Kp.grown (hkq.alloc _).drew hg9 hown.own_ge⟩
      case measure=>simp[intOf];omega
    ·obtain rfl:j=8:=by omega
     go_wp2_with fail;go_ret;exact ⟨⟨_,rfl,by rw[HSN.out];exact hown.mono (hkp5.trans hk).size⟩,(hkp5.trans hk).trans hkq⟩
theorem aeS (s:S8)(l m:List UInt8):∀ k,64*k≤l.length→aaA s (l++m) k=aaA s l k
 | 0,_=>rfl
 | k+1,h=>by
  rw[aa3,aa3,aeS s l m k (by omega),List.drop_append_of_le_length (by omega),List.take_append_of_le_length (by simp;omega)]
theorem ah0 (s:S8)(P:List UInt8)(a:Nat):∀ k,aaA (aaA s P a) (P.drop (64*a)) k=aaA s P (a+k)
 | 0=>rfl
 | k+1=>by
  rw[aa3,ah0 s P a k,List.drop_drop,show a+(k+1)=(a+k)+1 by omega,aa3,show 64*a+64*k=64*(a+k) by omega]
theorem ajC (l:List UInt8)(N M:Nat)(hN:N=l.length / 64)(hM:64*M=(l.drop (64*N)++pad l.length).length):
  aaH l=(aaA (aaA abi l N) (l.drop (64*N)++pad l.length) M).bytes:=by
 have h1:(acB l).length=64*(N+M):=by
  unfold acB;rw[List.length_append] at hM ⊢;rw[List.length_drop] at hM;omega
 have h2:(acB l).length / 64=N+M:=by omega
 have h3:l.drop (64*N)++pad l.length=(acB l).drop (64*N):=by
  unfold acB;rw[List.drop_append_of_le_length (by omega)]
 unfold aaH;rw[h2,h3,← ah0];have h4:aaA abi (acB l) N=aaA abi l N:=aeS _ _ _ _ (by omega);rw[h4]
theorem al8 (l:List UInt8)(N:Nat)(hN:N=l.length / 64):64*((l.drop (64*N)++pad l.length).length / 64)=(l.drop (64*N)++pad l.length).length:=by
 have:=ajq l.length;rw[List.length_append,List.length_drop];omega
theorem afq {P:Program}{ops:Array Oper}{rest:List Oper}{o:Oper}{a:Act}{w w':World}{Q:Exit→Act→World→Prop}(hgd:o.guard=none)(s x:Operand)(t tn:TypeId)
  (ho:o.op=.call { callee:=.builtin .append,args:=#[s,x],argTypes:=#[t,tn] }) (vs vx v:Value) (hs:a.eval s=vs) (hx:a.eval x=vx)
  (hrun:(Builtin.append_ #[t,tn] o.type #[vs,vx]).run P w=.ok v w') (h:wpList P ops Q rest (a.put o.dst v) w'):wpList P ops Q (o :: rest) a w:=by
 refine wpList_plain hgd fun K hK=>?_
 unfold Oper.wp;simp[execOp,ho,resolve,invoke,builtin,hs,hx,hrun,Result.andThen];exact hK _ _ h
theorem aly (n:Nat)(w:World)(h0:0<n)(h1:n≤1000000):
  Calls Tryz.prog 196 #[.slice none 0 0,.int .i64 n] w fun e w'=>(∃ v,e=.returned v∧Ow 5 w' w.heap.size v [])∧Kp w w':=by
 obtain ⟨i0,hi,hz0,hz1,hz2⟩:=info_parts Tryz.info5;have hold:(Builtin.firstCells i0.size 0 (.slice none 0 0)).run Tryz.prog w.drew=.ok ([]:List Value).toArray w.drew:=rfl;have hrz:∀ ty,(Builtin.append_ #[24,3] ty #[.slice none 0 0,.int .i64 (n:Int)]).run Tryz.prog w =
   .ok (.slice (some ⟨w.heap.size,0,none⟩) n (grownCap w n 0 5)) (w.drew.alloc (.cells (#[]++Builtin.zeroCells (Value.int .u8 0).cells n++Builtin.zeroCells (Value.int .u8 0).cells (grownCap w n 0 5 - n)) 5)):=fun ty=>by
  have h:=Lib.run_append_grow_zeros w 24 3 ty 5 i0 (.int .u8 0) .i64 .i64 Tryz.underlying24 Tryz.underlying3 hi hz0 none 0 0 [] hold n h0 (by omega) (by omega) (by omega) (by rw[hz2];omega)
   (by rw[hz2];have:=growslice_fits (need:=0+n) (old:=0) (bytes:=1) (by omega) (by omega);exact this)
  simpa using h
 have hge:n≤grownCap w n 0 5:=grownCap_ge w _ _ _;have hle:=grownCap_le_maxLen w n 0 5 (by unfold maxLen;omega);generalize grownCap w n 0 5=G at *;unfold maxLen at hle;have hn0:¬(n:Int)<0:=by omega
 have hn1:0<(n:Int):=by omega
 clear hold;go_enter Tryz.func196,Tryz.ntmps196;have hcs:(#[]++Builtin.zeroCells (Value.int .u8 0).cells n++Builtin.zeroCells (Value.int .u8 0).cells (G - n):Array Value).size=G:=by
  simp[size_zeroCells,Value.cells];omega
 generalize (#[]++Builtin.zeroCells (Value.int .u8 0).cells n++Builtin.zeroCells (Value.int .u8 0).cells (G - n):Array Value)=cs at *;have HR:=Lib.hid hrz;have HC:=Lib.hid hcs;clear hrz hcs hz0 hz1 hz2 hi;go_wp2_with (at_builtin;refine afq rfl (.tmp 20) (.tmp 21) _ _ rfl _ _ _ rfl rfl (HR.out _) ?_)
 go_ret;refine ⟨⟨_,rfl,?_⟩,(Kp.refl w).drew.alloc _⟩;refine ⟨rfl,.inr ⟨w.heap.size,G,cs,rfl,Nat.le_refl _,?_,Nat.zero_le _,by unfold maxLen;exact hle,by rw[HC.out];simp,by simp[Lib.byteCells]⟩⟩;exact heap_alloc_new w.drew _
theorem ah3 (g c:Nat)(v1 v2:Value)(l1 l2:List UInt8)(w:World)(hc1:w.cell? ⟨g,0,none⟩=some v1)(hc2:w.cell? ⟨g,1,none⟩=some v2)(h1:Rd w v1 l1)(h2:Rd w v2 l2)(hp:0<l1.length+l2.length)(hb:l1.length+l2.length≤1000000):
  Calls Tryz.prog 168 #[.slice (some ⟨g,0,none⟩) 2 c] w fun e w'=>(∃ v,e=.returned v∧Ow 5 w' w.heap.size v (l1++l2))∧Kp w w':=by
 have U:=ar0;obtain ⟨a1,e1,rfl,p1,q1⟩:=h1.shape;obtain ⟨a2,e2,rfl,p2,q2⟩:=h2.shape;unfold maxLen at q1 q2;go_enter Tryz.func168,Tryz.ntmps168;go_wp2_with fail;go_loopw[3,11] (fun s i wr=>((s=.int .i64 0∧i=.int .i64 0)∨(s=.int .i64 (l1.length:Int)∧i=.int .i64 1)∨(s=.int .i64 ((l1.length:Int)+(l2.length:Int))∧i=.int .i64 2))∧wr=w) (fun _ i _=>2 - (intOf i).toNat)
 case atStart=>exact ⟨.inl ⟨rfl,rfl⟩,rfl⟩
 case round=>
  obtain ⟨hor,rfl⟩:=hrel;rcases hor with ⟨rfl,rfl⟩ | ⟨rfl,rfl⟩ | ⟨rfl,rfl⟩
  ·go_wp2_with fail
   go_roundw
   case rel=>exact ⟨.inr (.inl ⟨by simp,rfl⟩),trivial⟩
   case measure=>simp[intOf]
  ·go_wp2_with fail
   go_roundw
   case rel=>exact ⟨.inr (.inr ⟨by simp,rfl⟩),trivial⟩
   case measure=>simp[intOf]
  ·rename World=>w0
   have hsum:((l1.length+l2.length:Nat):Int)=(l1.length:Int)+(l2.length:Int):=by simp
   have HG:=Lib.hid (aly (l1.length+l2.length) w0 hp hb);rw[hsum] at HG;clear hsum;go_wp2_with fail;refine HG.out.mono ?_;rintro e w1 ⟨⟨v,rfl,ho⟩,hk1⟩;go_wp2_with fail;go_loopw[6,27] (fun ar1 i wq=>((Ow 5 wq w0.heap.size ar1 []∧i=.int .i64 0)∨(Ow 5 wq w0.heap.size ar1 l1∧i=.int .i64 1)∨(Ow 5 wq w0.heap.size ar1 (l1++l2)∧i=.int .i64 2))∧Kp w0 wq) (fun _ i _=>2 - (intOf i).toNat)
   case atStart=>exact ⟨.inl ⟨ho,rfl⟩,hk1⟩
   case round=>
    clear ho hk1;obtain ⟨hor,hk⟩:=hrel;have hc1':=hk.cell hc1;have hc2':=hk.cell hc2;have hr1:=h1.kp hk;have hr2:=h2.kp hk;have hsz:=hk.size;rcases hor with ⟨ho,rfl⟩ | ⟨ho,rfl⟩ | ⟨ho,rfl⟩
    ·go_wp2_with (at_builtin;refine aae U rfl _ _ rfl w0.heap.size _ _ rfl ho _ l1 rfl hr1 ?c1 hsz ?_;rotate_right;intro v' w2 ho2 hg2 _)
     case c1=>simp;omega
     rw[List.nil_append] at ho2;go_roundw
     case rel=>exact ⟨.inr (.inl ⟨ho2,rfl⟩),Kp.grown hk hg2 ho.own_ge⟩
     case measure=>simp[intOf]
    ·go_wp2_with (at_builtin;refine aae U rfl _ _ rfl w0.heap.size _ _ rfl ho _ l2 rfl hr2 ?c1 hsz ?_;rotate_right;intro v' w2 ho2 hg2 _)
     case c1=>omega
     go_roundw
     case rel=>exact ⟨.inr (.inr ⟨ho2,rfl⟩),Kp.grown hk hg2 ho.own_ge⟩
     case measure=>simp[intOf]
    ·go_wp2_with fail
     go_ret;exact ⟨⟨_,rfl,ho⟩,hk⟩
theorem anN (ls:List (List UInt8))(k:Nat)(h:k<ls.length):(ls.take (k+1)).flatten=(ls.take k).flatten++ls.getD k []:=by
 rw[List.take_succ_eq_append_getElem h,List.flatten_append,List.getD_eq_getElem?_getD,List.getElem?_eq_getElem h];simp
theorem aqG (ls:List (List UInt8))(k:Nat):(ls.take k).flatten.length≤ls.flatten.length:=by
 have e:ls.flatten=(ls.take k).flatten++(ls.drop k).flatten:=by rw[← List.flatten_append,List.take_append_drop]
 rw[e,List.length_append];omega
theorem abW (v:Value)(ls:List (List UInt8))(w:World)(h:RL w v ls)(hp:0<ls.flatten.length)(hb:ls.flatten.length≤1000000)(hn:ls.length≤1000000):
  Calls Tryz.prog 168 #[v] w fun e w'=>(∃ v,e=.returned v∧Ow 5 w' w.heap.size v ls.flatten)∧Kp w w':=by
 have U:=ar0;obtain ⟨a,c,rfl,h1,h2⟩:=h.shape;unfold maxLen at h2;have HG:=Lib.hid (aly ls.flatten.length w hp hb);have HF:=Lib.hid (anN ls);have HL:=Lib.hid (aqG ls);have hall:(ls.take ls.length).flatten=ls.flatten:=by rw[List.take_length]
 have HA:=Lib.hid hall;clear hall;go_enter Tryz.func168,Tryz.ntmps168;go_wp2_with fail;go_loopw[3,11] (fun s i wr=>(∃ k:Nat,k≤ls.length∧i=.int .i64 k∧s=.int .i64 ((ls.take k).flatten.length:Int))∧wr=w) (fun _ i _=>ls.length - (intOf i).toNat)
 case atStart=>exact ⟨⟨0,by omega,rfl,rfl⟩,rfl⟩
 case round=>
  obtain ⟨⟨k,hk,rfl,rfl⟩,rfl⟩:=hrel;rename World=>w
  by_cases hlt:k<ls.length
  ·obtain ⟨b,off,rfl,_,hcell⟩:=h.at k hlt
   obtain ⟨ar1,hcu,hru⟩:=hcell k hlt;obtain ⟨au,cu,rfl,p1,p2⟩:=hru.shape;have hs:=congrArg List.length (HF.out k hlt);rw[List.length_append] at hs;have hle:=HL.out (k+1);obtain ⟨N,hN⟩:∃ N,(ls.take k).flatten.length=N:=⟨_,rfl⟩;obtain ⟨M,hM⟩:∃ M,(ls.getD k []).length=M:=⟨_,rfl⟩;obtain ⟨T,hT⟩:∃ T,(ls.take (k+1)).flatten.length=T:=⟨_,rfl⟩;rw[hN,hM,hT] at hs;rw[hT] at hle;rw[hM] at hcu p1;rw[hN];have b1:(N:Int)+(M:Int)≤1000000:=by omega
   have HT:=Lib.hid (show (T:Int)=(N:Int)+(M:Int) by omega);have HT2:=Lib.hid hT;unfold maxLen at p2;clear hcell hru hs hN hM hT HG;go_wp2_with fail;go_roundw
   case rel=>exact ⟨⟨k+1,by omega,by go_num,by rw[HT2.out,HT.out]⟩,trivial⟩
   case measure=>simp[intOf];omega
  ·obtain rfl:k=ls.length:=by omega
   rw[HA.out];obtain ⟨F,hF⟩:∃ F,ls.flatten.length=F:=⟨_,rfl⟩;rw[hF] at HG hp hb;rw[hF];have HFL:=Lib.hid hF;clear hF;go_wp2_with fail;refine HG.out.mono ?_;rintro e w1 ⟨⟨v,rfl,ho⟩,hk1⟩;go_wp2_with fail;go_loopw[6,27] (fun ar1 i wq=>(∃ k:Nat,k≤ls.length∧i=.int .i64 k∧Ow 5 wq w.heap.size ar1 (ls.take k).flatten)∧Kp w wq) (fun _ i _=>ls.length - (intOf i).toNat)
   case atStart=>exact ⟨⟨0,by omega,rfl,ho⟩,hk1⟩
   case round=>
    clear ho hk1;obtain ⟨⟨k,hk,rfl,ho⟩,hkp⟩:=hrel;by_cases hlt:k<ls.length
    ·obtain ⟨b,off,rfl,_,hcell⟩:=h.at k hlt
     obtain ⟨ar1,hcu,hru⟩:=hcell k hlt;have hcu':=hkp.cell hcu;have hru':=hru.kp hkp;obtain ⟨au,cu,rfl,p1,p2⟩:=hru.shape;have hs:=congrArg List.length (HF.out k hlt);rw[List.length_append] at hs;have hle:=HL.out (k+1);rw[HFL.out] at hle;have hle2:(List.take k ls).flatten.length+(ls.getD k []).length≤1000000:=by omega
     have hsz:=hkp.size;have HFK:=Lib.hid (HF.out k hlt);obtain ⟨X,hX⟩:∃ X,ls.getD k []=X:=⟨_,rfl⟩;obtain ⟨Y,hY⟩:∃ Y,(ls.take k).flatten=Y:=⟨_,rfl⟩;rw[hX] at hcu' hru' p1 hle2 HFK;rw[hY] at ho hle2 HFK;unfold maxLen at p2;clear hcell hru hs hcu hle HG hX hY;go_wp2_with (at_builtin;refine aae U rfl _ _ rfl w.heap.size _ _ rfl ho _ X rfl hru' ?c1 hsz ?_;rotate_right;intro v' w2 ho2 hg2 _)
     case c1=>omega
     go_roundw
     case rel=>exact ⟨⟨k+1,by omega,by go_num,by rw[HFK.out];exact ho2⟩,Kp.grown hkp hg2 ho.own_ge⟩
     case measure=>simp[intOf];omega
    ·obtain rfl:k=ls.length:=by omega
     rw[HA.out] at ho;go_wp2_with fail;go_ret;exact ⟨⟨_,rfl,ho⟩,hkp⟩
end Go.Proofs.YthmhklmkgkfcpaaGreatDoor
