import Derived.Test.YthmhklmkgkfcpaaGreatDoorU2
import Derived.Test.YthmhklmkgkfcpaaGreatDoorProg
import Derived.IntWalk
import Derived.Lib.Hide
import Derived.BigQuiet
import Derived.Deep.QuietTactic
import Derived.Outline
import Derived.WalkSpells
set_option linter.unusedVariables false
set_option linter.unusedSimpArgs false
set_option maxHeartbeats 8000000
set_option maxRecDepth 100000
namespace Go.Proofs.YthmhklmkgkfcpaaGreatDoor
open Go.RowKit
attribute [local go_sem] agr aoI anh aoJ u_or ani ajd
theorem and31 (x:Int)(h₀:0≤x)(h₁:x<2 ^ 64):bits .and .u64 x 31=x % 32:=
 bits_mask .u64 64 (by decide) (fun n h0 h1=>by simp[IntKind.wrap,IntKind.bits,IntKind.signed];omega) 5 (by decide) x h₀ h₁
theorem arg (i:Nat)(h0:0<i)(h1:i<32):bits .and .u64 (IntKind.u64.wrap (-(i:Int))) 31=32 - (i:Int):=by
 have hw:IntKind.u64.wrap (-(i:Int))=18446744073709551616 - i:=by
  simp[IntKind.wrap,IntKind.bits,IntKind.signed];omega
 rw[hw,and31 _ (by omega) (by omega)];omega
theorem ahO (i:Nat)(x:UInt32)(w:World)(h0:0<i)(h1:i<32):
  Calls Tryz.prog 273 #[.int .u32 (arO x),.int .i64 (-(i:Int))] w fun e w'=>e=.returned (.int .u32 (arO (rotr i x)))∧w=w':=by
 have ht:=arg i h0 h1;have e1:(32 - (i:Int)).toNat=32 - i:=by omega
 have e2:IntKind.u64.wrap (32 - (32 - (i:Int)))=i:=by simp[IntKind.wrap,IntKind.bits,IntKind.signed];omega
 go_enter Tryz.func273,Tryz.ntmps273;go_wp2;go_ret;exact ⟨by rw[aoK];rfl,rfl⟩
theorem ahP (i j k:Nat)(x:UInt32)(w:World)(hi:0<i∧i<32)(hj:0<j∧j<32)(hk:0<k∧k<32):
  Calls Tryz.prog 268 #[.int .u32 (arO x),.int .i64 i,.int .i64 j,.int .i64 k] w fun e w'=>e=.returned (.int .u32 (arO (big i j k x)))∧w=w':=by
 have n:∀ i:Nat,i<32→IntKind.i64.wrap (-(i:Int)) = -i:=fun i h=>by rw[IntKind.wrap_i64];omega
 have ni:=n i hi.2;have nj:=n j hj.2;have nk:=n k hk.2;obtain ⟨hi0,hi1⟩:=hi;obtain ⟨hj0,hj1⟩:=hj;obtain ⟨hk0,hk1⟩:=hk;clear n;go_enter Tryz.func268,Tryz.ntmps268;go_wp2_with ((go_at_call 273;refine (ahO _ _ _ (by assumption) (by assumption)).mono ?_;rintro e w' ⟨rfl,rfl⟩))
 go_ret;exact ⟨rfl,rfl⟩
theorem aoL (x:UInt32)(w:World):Calls Tryz.prog 268 #[.int .u32 (arO x),.int .i64 6,.int .i64 11,.int .i64 25] w fun e w'=>e=.returned (.int .u32 (arO (big 6 11 25 x)))∧w=w':=
 ahP 6 11 25 x w (by decide) (by decide) (by decide)
theorem alh (x:UInt32)(w:World):Calls Tryz.prog 268 #[.int .u32 (arO x),.int .i64 2,.int .i64 13,.int .i64 22] w fun e w'=>e=.returned (.int .u32 (arO (big 2 13 22 x)))∧w=w':=
 ahP 2 13 22 x w (by decide) (by decide) (by decide)
theorem ags (i j k:Nat)(x:UInt32)(w:World)(hi:0<i∧i<32)(hj:0<j∧j<32)(hk:0<k∧k<32):
  Calls Tryz.prog 272 #[.int .u32 (arO x),.int .i64 i,.int .i64 j,.int .i64 k] w fun e w'=>e=.returned (.int .u32 (arO (small i j k x)))∧∃ n,w'=w.drewN n:=by
 have n:∀ i:Nat,i<32→IntKind.i64.wrap (-(i:Int)) = -i:=fun i h=>by rw[IntKind.wrap_i64];omega
 have ni:=n i hi.2;have nj:=n j hj.2;have hs:=ajd k x;obtain ⟨hi0,hi1⟩:=hi;obtain ⟨hj0,hj1⟩:=hj;obtain ⟨hk0,hk1⟩:=hk;clear n;go_enter Tryz.func272,Tryz.ntmps272;go_wp2;go_quiet ((go_at_call 273;exact ae6 (ahO _ _ _ (by assumption) (by assumption))))
 go_wp2;go_ret;exact ⟨rfl,_,rfl⟩
theorem anm (x:UInt32)(w:World):Calls Tryz.prog 272 #[.int .u32 (arO x),.int .i64 17,.int .i64 19,.int .i64 10] w fun e w'=>e=.returned (.int .u32 (arO (small 17 19 10 x)))∧∃ n,w'=w.drewN n:=
 ags 17 19 10 x w (by decide) (by decide) (by decide)
theorem ann (x:UInt32)(w:World):Calls Tryz.prog 272 #[.int .u32 (arO x),.int .i64 7,.int .i64 18,.int .i64 3] w fun e w'=>e=.returned (.int .u32 (arO (small 7 18 3 x)))∧∃ n,w'=w.drewN n:=
 ags 7 18 3 x w (by decide) (by decide) (by decide)
theorem aoM (i:Nat)(x:UInt32)(w:World)(h0:0<i)(h1:i<32):
  Calls Tryz.prog 258 #[.int .u32 (arO x),.int .u32 i] w fun e w'=>e=.returned (.int .u32 (arO (rotr i x)))∧w=w':=by
 have e2:IntKind.u32.wrap (32 - (i:Int))=32 - i:=by rw[IntKind.wrap_u32];omega
 have e1:(32 - (i:Int)).toNat=32 - i:=by omega
 have hs:=ajd i x;have hl:=ani (32 - i) x;go_enter Tryz.func258,Tryz.ntmps258;go_wp2;go_ret;exact ⟨rfl,rfl⟩
def ub (b:UInt8):Int:=(b.toNat:Int)
theorem acd (b:UInt8):0≤ub b:=Int.natCast_nonneg _
theorem ajg (b:UInt8):ub b<256:=by unfold ub;have:=b.toNat_lt;omega
theorem ahQ (a b c d:UInt8):ub a*16777216+ub b*65536+ub c*256+ub d=arO (adQ a b c d):=by
 unfold adQ ub;have:=a.toNat_lt;have:=b.toNat_lt;have:=c.toNat_lt;have:=d.toNat_lt;rw[u_of _ (by omega)];omega
theorem Rd.row {w:World}{a:Option Addr}{n c:Nat}{l:List UInt8}(h:Rd w (.slice a n c) l)(hn:0<n):
 ∃ b off,a=some ⟨b,off,none⟩∧b<w.heap.size∧∀ i,i<n→w.cell? ⟨b,off+i,none⟩=some (.int .u8 (ub (l.getD i 0))):=h.at 0 hn
theorem aoN (v:Value)(l:List UInt8)(at':Nat)(w:World)(h:Rd w v l)(hl:at'+4≤l.length):
  Calls Tryz.prog 257 #[v,.int .i64 at'] w fun e w'=>e=.returned (.int .u32 (arO (adQ (l.getD at' 0) (l.getD (at'+1) 0) (l.getD (at'+2) 0) (l.getD (at'+3) 0))))∧∃ n,w'=w.drewN n:=by
 obtain ⟨a,c,rfl,h1,h2⟩:=h.shape;unfold maxLen at h2;obtain ⟨b,off,rfl,hb,hc⟩:=h.row (by omega);have c0:=hc at' (by omega);have c1:=hc (at'+1) (by omega);have c2:=hc (at'+2) (by omega);have c3:=hc (at'+3) (by omega);have hs:=ahQ (l.getD at' 0) (l.getD (at'+1) 0) (l.getD (at'+2) 0) (l.getD (at'+3) 0);generalize l.getD at' 0=x0 at *;generalize l.getD (at'+1) 0=x1 at *;generalize l.getD (at'+2) 0=x2 at *;generalize l.getD (at'+3) 0=x3 at *;have b0:=acd x0;have b1:=acd x1;have b2:=acd x2;have b3:=acd x3;have d0:=ajg x0;have d1:=ajg x1;have d2:=ajg x2;have d3:=ajg x3;clear hc;have i0:(at':Int)<(l.length:Int):=by omega
 have i1:(at':Int)+1<(l.length:Int):=by omega
 have i2:(at':Int)+2<(l.length:Int):=by omega
 have i3:(at':Int)+3<(l.length:Int):=by omega
 have n1:(0:Int)≤(at':Int)+1:=by omega
 have n2:(0:Int)≤(at':Int)+2:=by omega
 have n3:(0:Int)≤(at':Int)+3:=by omega
 have k1:IntKind.i64.wrap ((at':Int)+1)=(at':Int)+1:=IntWalk.i64_in _ (by omega);have k2:IntKind.i64.wrap ((at':Int)+2)=(at':Int)+2:=IntWalk.i64_in _ (by omega);have k3:IntKind.i64.wrap ((at':Int)+3)=(at':Int)+3:=IntWalk.i64_in _ (by omega);have t1:((at':Int)+1).toNat=at'+1:=by omega
 have t2:((at':Int)+2).toNat=at'+2:=by omega
 have t3:((at':Int)+3).toNat=at'+3:=by omega
 have W:∀ x:Int,0≤x→x<4294967296→IntKind.u32.wrap x=x:=fun x h0 h1=>by rw[IntKind.wrap_u32];omega
 have v0:=W (ub x0) (by omega) (by omega);have v1:=W (ub x1) (by omega) (by omega);have v2:=W (ub x2) (by omega) (by omega);have v3:=W (ub x3) (by omega) (by omega);have m0:=W (ub x0*16777216) (by omega) (by omega);have m1:=W (ub x1*65536) (by omega) (by omega);have m2:=W (ub x2*256) (by omega) (by omega);have s1:=W (ub x0*16777216+ub x1*65536) (by omega) (by omega);have s2:=W (ub x0*16777216+ub x1*65536+ub x2*256) (by omega) (by omega);have s3:=W (ub x0*16777216+ub x1*65536+ub x2*256+ub x3) (by omega) (by omega);have H:=Lib.hid hs;clear W hs b0 b1 b2 b3 d0 d1 d2 d3;go_enter Tryz.func257,Tryz.ntmps257;go_wp2;go_quiet (fail)
 go_wp2;go_ret;exact ⟨by rw[← H.out];rfl,_,rfl⟩
theorem aik (n:Int)(x:UInt32)(w:World)(h0:0<n)(h1:n<32):
  Calls Tryz.prog 258 #[.int .u32 (arO x),.int .u32 n] w fun e w'=>e=.returned (.int .u32 (arO (rotr n.toNat x)))∧w=w':=by
 obtain ⟨i,rfl⟩:=Int.eq_ofNat_of_zero_le (Int.le_of_lt h0);rw[Int.toNat_natCast];exact aoM i x w (by omega) (by omega)
theorem aoO (x:Int)(v:Value)(l:List UInt8)(at':Nat)(w:World)(h:Rd w v l)(hl:at'+4≤l.length)(hx:x=at'):
  Calls Tryz.prog 257 #[v,.int .i64 x] w fun e w'=>e=.returned (.int .u32 (arO (adQ (l.getD at' 0) (l.getD (at'+1) 0) (l.getD (at'+2) 0) (l.getD (at'+3) 0))))∧∃ n,w'=w.drewN n:=by
 subst hx;exact aoN v l at' w h hl
theorem ano (n:Int)(w:World):
  Calls Tryz.prog 249 #[.int .i64 n] w fun e w'=>(∃ v,e=.returned v∧Rd w' v (ajf n))∧Kp w w':=by
 by_cases h0:0≤n∧n≤1125899906842624
 ·have hp:ajf n=pad n.toNat:=if_pos h0
  rw[hp];clear hp;obtain ⟨h0,h1⟩:=h0;obtain ⟨n,rfl⟩:=Int.eq_ofNat_of_zero_le h0;rw[Int.toNat_natCast];obtain ⟨f,hf⟩:∃ f,fill n=f:=⟨_,rfl⟩;have hfl:=afd n;have hl:=acs n;have hst:=anl n;have hget:=aqf n;have hfi:(119 - (n:Int) % 64).tmod 64=(f:Int):=by
   rw[Int.tmod_eq_emod_of_nonneg (by omega),← hf];unfold fill;omega
  rw[hf] at hfl hl hst hget;have hfi2:(119 - (n:Int) % 64) % 64=(f:Int):=by rw[← hfi,Int.tmod_eq_emod_of_nonneg (by omega)]
  have HG:=Lib.hid hget;have HL:=Lib.hid hl;have HS:=Lib.hid hst;have HB:=Lib.hid h1;have hw:IntKind.i64.wrap (8*(n:Int))=8*(n:Int):=by rw[IntKind.wrap_i64];omega
  clear hf hget hl hst;go_enter Tryz.func249,Tryz.ntmps249;have hz:((9+f:Nat):Int)=1+(f:Int)+8:=by omega
  have HZ:=Lib.hid hz;clear hz;go_wp2_with (at_make;refine aaT (z:=.int .u8 0) (b:=1) Tryz.underlying24 Tryz.info5 rfl (by decide) rfl _ _ rfl (9+f) (by rw[HZ.out];rfl) (by rw[HZ.out];rfl) (by omega) ?_;intro w1 hw1;have HW1:=Lib.hid hw1;clear hw1;have hB0:By 5 w1 w.heap.size (List.replicate (9+f) 0):=(by rw[HW1.out];exact By.fresh _ _ _);have hk0:Kp w w1:=(by rw[HW1.out];exact (Kp.refl w).alloc _);have c0:=hB0.cell 0 (by simp;omega);have f0:=hB0.frozen 0)
  have hB1:By 5 (w1.setCell ⟨w.heap.size,0,none⟩ (.int .u8 128)) w.heap.size (mixB (List.replicate (9+f) 0) (pad n) (1+f)):=hB0.set 0 128 HS.out;have hk1:Kp w (w1.setCell ⟨w.heap.size,0,none⟩ (.int .u8 128)):=Below.setCell hk0 (by simp) _;clear hB0 hk0 c0 f0 HW1 hfi hfi2;go_loopw[22] (fun i wr=>∃ k:Nat,k≤8∧i=.int .i64 k∧By 5 wr w.heap.size (mixB (List.replicate (9+f) 0) (pad n) (1+f+k))∧Kp w wr) (fun i _=>8 - (intOf i).toNat)
  case atStart=>exact ⟨0,by omega,rfl,hB1,hk1⟩
  case round=>
   clear hB1 hk1;obtain ⟨k,hk,rfl,hB,hkp⟩:=hrel;by_cases hlt:k<8
   ·have hset:=acn (List.replicate (9+f) 0) (pad n) (1+f+k) (by rw[HL.out];simp) (by simp;omega) _ (HG.out k hlt)
    have hlen:(mixB (List.replicate (9+f) 0) (pad n) (1+f+k)).length=9+f:=by rw[aaV _ _ _ (by rw[HL.out];simp) (by simp;omega)];simp
    have c0:=hB.cell (1+f+k) (by rw[hlen];omega);have f0:=hB.frozen (1+f+k);have e1:(8*(7 - (k:Int))).toNat=8*(7 - k):=by omega
    have e2:(8*(n:Int)) / 2 ^ (8*(7 - k))=((8*n / 256 ^ (7 - k):Nat):Int):=by
     have:(256:Nat) ^ (7 - k)=2 ^ (8*(7 - k)):=by rw[Nat.pow_mul]
     rw[this];simp
    obtain ⟨X,hX⟩:∃ X,8*n / 256 ^ (7 - k)=X:=⟨_,rfl⟩;rw[hX] at e2 hset;have hv:((UInt8.ofNat X).toNat:Int)=(X:Int) % 256:=by simp
    have hi1:(1+(f:Int)+(k:Int))<9+(f:Int):=by omega
    have hi2:(1+(f:Int)+(k:Int)).toNat=1+f+k:=by omega
    have H7:(0:Int)≤7 - (k:Int):=by omega
    have HS2:=Lib.hid (And.intro hset hv);clear hset hX hlen hv;go_wp2_with fail;go_roundw
    case rel=>
     refine ⟨k+1,by omega,by go_num,?_,Below.setCell hkp (by simp) _⟩;have h:=hB.set (1+f+k) (UInt8.ofNat X) HS2.out.1;rw[HS2.out.2] at h;exact h
    case measure=>simp[intOf];omega
   ·obtain rfl:k=8:=by omega
    have hm:mixB (List.replicate (9+f) 0) (pad n) (1+f+8)=pad n:=by
     rw[show 1+f+8=(pad n).length by rw[HL.out];omega];exact adg _ _ (by rw[HL.out];simp)
    rw[hm] at hB;clear hm;go_wp2_with fail;go_ret;exact ⟨⟨_,rfl,hB.rdAll (by rw[HL.out]) (Nat.le_refl _) (by unfold maxLen;omega)⟩,hkp⟩
 ·have hp:ajf n=[]:=if_neg h0
  rw[hp];by_cases h:n<0
  ·go_enter Tryz.func249,Tryz.ntmps249
   go_wp2;go_ret;exact ⟨⟨_,rfl,none,0,rfl,Nat.le_refl _,Nat.zero_le _,fun _=>rfl,fun x hx=>by cases hx⟩,Kp.refl _⟩
  ·have h2:1125899906842624<n:=by omega
   clear h0;go_enter Tryz.func249,Tryz.ntmps249;go_wp2;go_ret;exact ⟨⟨_,rfl,none,0,rfl,Nat.le_refl _,Nat.zero_le _,fun _=>rfl,fun x hx=>by cases hx⟩,Kp.refl _⟩
theorem alT (n:Int)(w:World):
  Calls Tryz.prog 223 #[.int .i64 n] w fun e w'=>(∃ v,e=.returned v∧Rd w' v (ajf n))∧Kp w w':=by
 have U:=arN;by_cases h0:0≤n∧n≤1125899906842624
 ·have hp:ajf n=pad n.toNat:=if_pos h0
  rw[hp];clear hp;obtain ⟨h0,h1⟩:=h0;obtain ⟨n,rfl⟩:=Int.eq_ofNat_of_zero_le h0;rw[Int.toNat_natCast];obtain ⟨f,hf⟩:∃ f,fill n=f:=⟨_,rfl⟩;have hfl:=afd n;have hfz:∀ k:Nat,k≤f→(((n:Int)+((k:Int)+1)+8) % 64=0↔k=f):=fun k hk=>by
   have:f=(119 - n % 64) % 64:=hf.symm;omega
  have hp:pad n=128 :: List.replicate f 0++be 8 (8*n):=by unfold pad;rw[hf]
  rw[hf] at hfl;have HFZ:=Lib.hid hfz;have HP:=Lib.hid hp;have HB:=Lib.hid h1;have hw:IntKind.i64.wrap (8*(n:Int))=8*(n:Int):=by rw[IntKind.wrap_i64];omega
  clear hf hfz hp;go_enter Tryz.func223,Tryz.ntmps223;go_wp2_with fail;go_loopw[3] (fun v wr=>∃ k:Nat,k≤f∧Ow 5 wr w.heap.size v (128 :: List.replicate k 0)∧Kp w wr) (fun v wr=>f - (match v with | .slice _ n _=>n - 1 | _=>0))
  case atStart=>exact ⟨0,by omega,Ow.lit w 5 w.heap.size 1 _ [128] (Nat.le_refl _) rfl (by decide) rfl,(Kp.refl w).alloc _⟩
  case round=>
   obtain ⟨k,hk,hown,hkp⟩:=hrel;obtain ⟨a,c,rfl,hc1,hc2⟩:=hown.rd.shape;have hl:(128 :: List.replicate k 0:List UInt8).length=k+1:=by simp
   rw[hl] at hown hc1 ⊢;unfold maxLen at hc2;by_cases hlt:k<f
   ·have hne:¬((n:Int)+((k:Int)+1)+8) % 64=0:=by rw[HFZ.out k hk];omega
    go_wp2_with (at_builtin;refine aae U rfl _ _ rfl w.heap.size _ _ rfl (hown.kp ((Kp.refl _).alloc _)) _ [0] rfl (Rd.box _ _ _ 0 rfl) ?c1 ?c2 ?_;rotate_right;intro v' w2 ho2 hg _)
    case c1=>simp;omega
    case c2=>have:=hkp.size;simp;omega
    have he:(128 :: List.replicate k 0++[0]:List UInt8)=128 :: List.replicate (k+1) 0:=by rw[List.replicate_succ',List.cons_append]
    rw[he] at ho2;go_roundw
    case rel=>exact ⟨k+1,by omega,ho2,Kp.grown (hkp.alloc _) hg hown.own_ge⟩
    case measure=>
     obtain ⟨a',c',rfl,_,_⟩:=ho2.rd.shape;simp;omega
   ·obtain rfl:k=f:=by omega
    have hne:((n:Int)+((k:Int)+1)+8) % 64=0:=(HFZ.out k (Nat.le_refl _)).2 rfl;clear hlt;go_wp2_with fail;go_loopw[3,5] (fun v i wr=>∃ j:Nat,j≤8∧i=.int .i64 (56 - 8*(j:Int))∧Ow 5 wr w.heap.size v (128 :: List.replicate k 0++(be 8 (8*n)).take j)∧Kp w wr) (fun _ i _=>(64+intOf i).toNat)
    case atStart=>exact ⟨0,by omega,rfl,by rw[List.take_zero,List.append_nil];exact hown,hkp⟩
    case round=>
     clear hown hkp hne hc1 hc2;obtain ⟨j,hj,rfl,hown,hkp⟩:=hrel;by_cases hlt:j<8
     ·have e2:(8*(n:Int)) / 2 ^ (56 - 8*j)=((8*n / 256 ^ (7 - j):Nat):Int):=by
       have:(256:Nat) ^ (7 - j)=2 ^ (56 - 8*j):=by rw[show 56 - 8*j=8*(7 - j) by omega,Nat.pow_mul]
       rw[this];simp
      have e1:(56 - 8*(j:Int)).toNat=56 - 8*j:=by omega
      have hj0:0≤56 - 8*(j:Int):=by omega
      have hget:=ank 8 (8*n) j hlt;have htk:(be 8 (8*n)).take (j+1)=(be 8 (8*n)).take j++[UInt8.ofNat (8*n / 256 ^ (7 - j))]:=by
       have hlt':j<(be 8 (8*n)).length:=by rw[aak];exact hlt
       rw[List.take_succ_eq_append_getElem hlt'];rw[List.getElem?_eq_getElem hlt'] at hget;rw[Option.some.inj hget]
      obtain ⟨X,hX⟩:∃ X,8*n / 256 ^ (7 - j)=X:=⟨_,rfl⟩;rw[hX] at e2 htk;obtain ⟨bx,hbx⟩:∃ b:UInt8,UInt8.ofNat X=b:=⟨_,rfl⟩;have hv:(X:Int) % 256=(bx.toNat:Int):=by rw[← hbx];simp
      rw[hbx] at htk;have hlen:(128 :: List.replicate k 0++(be 8 (8*n)).take j:List UInt8).length≤100:=by simp[aak];omega
      have HT:=Lib.hid htk;obtain ⟨L,hL⟩:∃ L,(128 :: List.replicate k 0++(be 8 (8*n)).take j:List UInt8)=L:=⟨_,rfl⟩;rw[hL] at hown hlen;have HL:=Lib.hid hL;have hu8:IntKind.u8.wrap (X:Int)=(bx.toNat:Int):=by rw[IntKind.wrap_u8,hv]
      have HB2:=Lib.hid hbx;clear htk hget hX hL hbx;go_wp2_with (at_builtin;refine aae U rfl _ _ rfl w.heap.size _ _ rfl (hown.kp ((Kp.refl _).alloc _)) _ [bx] rfl (Rd.box _ _ _ bx rfl) ?c1 ?c2 ?_;rotate_right;intro v' w2 ho2 hg _)
      case c1=>simp;omega
      case c2=>have:=hkp.size;simp;omega
      go_roundw
      case rel=>exact ⟨j+1,by omega,by congr 1;omega,by rw[HT.out,← List.append_assoc,HL.out];exact ho2,Kp.grown (hkp.alloc _) hg hown.own_ge⟩
      case measure=>simp[intOf];omega
     ·obtain rfl:j=8:=by omega
      rw[List.take_of_length_le (by rw[aak];exact Nat.le_refl _)] at hown;rw[← HP.out] at hown;go_wp2_with fail;go_ret;exact ⟨⟨_,rfl,hown.rd⟩,hkp⟩
 ·have hp:ajf n=[]:=if_neg h0
  rw[hp];by_cases h:n<0
  ·go_enter Tryz.func223,Tryz.ntmps223
   go_wp2;go_ret;exact ⟨⟨_,rfl,none,0,rfl,Nat.le_refl _,Nat.zero_le _,fun _=>rfl,fun x hx=>by cases hx⟩,Kp.refl _⟩
  ·have h2:1125899906842624<n:=by omega
   clear h0;go_enter Tryz.func223,Tryz.ntmps223;go_wp2;go_ret;exact ⟨⟨_,rfl,none,0,rfl,Nat.le_refl _,Nat.zero_le _,fun _=>rfl,fun x hx=>by cases hx⟩,Kp.refl _⟩
theorem ace (x:Int)(h0:0≤x)(h1:x<18446744073709551616):IntKind.u64.wrap x=x:=by
 simp[IntKind.wrap,IntKind.bits,IntKind.signed];omega
theorem ajh (n:Nat)(w:World)(h0:1≤n)(h1:(n:Int)<9223372036854775808):
  Calls Tryz.prog 271 #[.int .u64 n] w fun e w'=>e=.returned (.int .u64 (abA n))∧w=w':=by
 obtain ⟨R,hR⟩:∃ R,abA n=R:=⟨_,rfl⟩;rw[hR];unfold abA at hR;have HR:=Lib.hid hR;clear hR;go_enter Tryz.func271,Tryz.ntmps271;go_wp2_with fail;go_loopw[3] (fun x wr=>(∃ k:Nat,x=.int .u64 k∧1≤k∧(k:Int)≤2097152∧∃ f,k≤f∧agt f n k=R)∧wr=w) (fun x _=>(intOf x).toNat)
 case atStart=>exact ⟨⟨2097152,rfl,by decide,by decide,2097152,Nat.le_refl _,HR.out⟩,rfl⟩
 case round=>
  obtain ⟨⟨k,rfl,hk1,hk2,f,hf,hc⟩,rfl⟩:=hrel;have HC:=Lib.hid hc;have hkk:(1:Int)≤(k:Int)*(k:Int):=by
   have:=Nat.mul_le_mul hk1 hk1;have h2:((1*1:Nat):Int)≤((k*k:Nat):Int):=by omega
   rwa [Int.natCast_mul] at h2
  have hkk2:(k:Int)*(k:Int)≤4398046511104:=by
   have h2:=Int.mul_le_mul hk2 hk2 (by omega) (by omega);exact h2
  have hne:¬(k:Int)*(k:Int)=0:=by omega
  have m1:IntKind.u64.wrap (2*(k:Int))=2*(k:Int):=ace _ (by omega) (by omega);have m2:IntKind.u64.wrap ((k:Int)*(k:Int))=(k:Int)*(k:Int):=ace _ (by omega) (by omega);have hd0:0≤(n:Int) / ((k:Int)*(k:Int)):=Int.ediv_nonneg (by omega) (by omega);have hd1:(n:Int) / ((k:Int)*(k:Int))≤(n:Int):=Int.ediv_le_self _ (by omega);have m3:IntKind.u64.wrap (2*(k:Int)+(n:Int) / ((k:Int)*(k:Int)))=2*(k:Int)+(n:Int) / ((k:Int)*(k:Int)):=ace _ (by omega) (by omega);have m0:IntKind.u64.wrap ((n:Int) / ((k:Int)*(k:Int)))=(n:Int) / ((k:Int)*(k:Int)):=ace _ (by omega) (by omega);have hq:(2*(k:Int)+(n:Int) / ((k:Int)*(k:Int))).tdiv 3=((abb n k:Nat):Int):=by
   rw[Int.tdiv_eq_ediv_of_nonneg (by omega)];unfold abb;simp
  have hq1:=afA n k h0 hk1;have hq2:((abb n k:Nat):Int)<18446744073709551616:=by
   rw[← hq,Int.tdiv_eq_ediv_of_nonneg (by omega)];omega
  have m5:IntKind.u64.wrap ((abb n k:Nat):Int)=((abb n k:Nat):Int):=ace _ (by omega) hq2;obtain ⟨q,hqq⟩:∃ q,abb n k=q:=⟨_,rfl⟩;rw[hqq] at hq hq1 m5;have HQ:=Lib.hid hqq;have B:=Lib.hid (And.intro hk2 (And.intro hkk2 h1));clear hc hk2 hkk2 h1 HR hd1 hq2 hqq;by_cases hge:k≤q
  ·go_wp2_with fail
   go_ret;exact ⟨by rw[← HC.out,alU f n k (by rw[HQ.out];exact hge)];rfl,rfl⟩
  ·go_wp2_with fail
   go_roundw
   case rel=>
    obtain ⟨g,hg1,hg2⟩:=aoP f n k hf (by rw[HQ.out];exact hge);have:=B.out.1;rw[HQ.out] at hg1 hg2;exact ⟨⟨q,rfl,hq1,by omega,g,hg1,hg2.trans HC.out⟩,trivial⟩
   case measure=>simp[intOf];omega
theorem aji (p:Nat)(w:World)(h0:1≤p)(h1:p<312):
  Calls Tryz.prog 265 #[.int .u64 p] w fun e w'=>e=.returned (.int .u32 (arO (anq p)))∧w=w':=by
 have hfit:fits p=true:=(aoQ ⟨p,h1⟩).resolve_left (by simp;omega);unfold fits at hfit;simp only[Bool.and_eq_true,decide_eq_true_eq] at hfit;obtain ⟨hf1,hf2⟩:=hfit;have hN:((abJ p:Nat):Int)=(p:Int)*18014398509481984:=by unfold abJ;simp
 have hr:=agu 2097152 (abJ p) 2097152 (by unfold abJ;omega) (by decide);have hw:anq p=UInt32.ofNat (aqg p):=rfl;have hb:aqg p=abA (abJ p)*16384+anp p*16384 / (3*abA (abJ p)*abA (abJ p)):=rfl;have hre:anp p=abJ p - abA (abJ p)*abA (abJ p)*abA (abJ p):=rfl;change 1≤abA (abJ p)∧abA (abJ p)≤2097152 at hr;have hNb:((abJ p:Nat):Int)<9223372036854775808:=by rw[hN];omega
 have hN1:1≤abJ p:=by unfold abJ;omega
 have HC:=Lib.hid (ajh (abJ p));rw[hb] at hw;generalize abA (abJ p)=x at *;generalize abJ p=N at *;generalize anp p=r at *;clear hb;have hx1:(1:Int)≤(x:Int):=by omega
 have hx2:(x:Int)≤2097152:=by omega
 have hxx:(1:Int)≤(x:Int)*(x:Int):=by
  have:=Nat.mul_le_mul hr.1 hr.1;have h2:((1*1:Nat):Int)≤((x*x:Nat):Int):=by omega
  rwa [Int.natCast_mul] at h2
 have hxx2:(x:Int)*(x:Int)≤4398046511104:=by
  have h2:=Int.mul_le_mul hx2 hx2 (by omega) (by omega);exact h2
 have hx3:(x:Int)*(x:Int)*(x:Int)≤(N:Int):=by
  have h2:((x*x*x:Nat):Int)≤((N:Nat):Int):=by omega
  rwa [Int.natCast_mul,Int.natCast_mul] at h2
 have hx30:0≤(x:Int)*(x:Int)*(x:Int):=Int.mul_nonneg (by omega) (by omega);have h3xx:3*(x:Int)*(x:Int)=3*((x:Int)*(x:Int)):=by rw[Int.mul_assoc]
 have A:IntKind.u64.wrap ((p:Int)*18014398509481984)=(N:Int):=by rw[← hN];exact ace _ (by omega) (by omega)
 have X2:IntKind.u64.wrap ((x:Int)*(x:Int))=(x:Int)*(x:Int):=ace _ (by omega) (by omega);have X3:IntKind.u64.wrap ((x:Int)*(x:Int)*(x:Int))=(x:Int)*(x:Int)*(x:Int):=ace _ hx30 (by omega);have hrr:(r:Int)=(N:Int) - (x:Int)*(x:Int)*(x:Int):=by
  have:((x*x*x:Nat):Int)=(x:Int)*(x:Int)*(x:Int):=by rw[Int.natCast_mul,Int.natCast_mul]
  omega
 have R:IntKind.u64.wrap ((N:Int) - (x:Int)*(x:Int)*(x:Int))=(r:Int):=by rw[← hrr];exact ace _ (by omega) (by omega)
 have S1:IntKind.u64.wrap ((x:Int)*16384)=(x:Int)*16384:=ace _ (by omega) (by omega);have S2:IntKind.u64.wrap ((r:Int)*16384)=(r:Int)*16384:=ace _ (by omega) (by omega);have T1:IntKind.u64.wrap (3*(x:Int))=3*(x:Int):=ace _ (by omega) (by omega);have T2:IntKind.u64.wrap (3*(x:Int)*(x:Int))=3*(x:Int)*(x:Int):=ace _ (by omega) (by omega);have hne:¬(3*(x:Int)*(x:Int)=0):=by omega
 have hd0:0≤(r:Int)*16384 / (3*(x:Int)*(x:Int)):=Int.ediv_nonneg (by omega) (by omega);have hd1:(r:Int)*16384 / (3*(x:Int)*(x:Int))≤(r:Int)*16384:=Int.ediv_le_self _ (by omega);have hT:((r:Int)*16384).tdiv (3*(x:Int)*(x:Int))=(r:Int)*16384 / (3*(x:Int)*(x:Int)):=Int.tdiv_eq_ediv_of_nonneg (by omega);obtain ⟨d,hd⟩:∃ d:Nat,r*16384 / (3*x*x)=d:=⟨_,rfl⟩;have hdi:(r:Int)*16384 / (3*(x:Int)*(x:Int))=(d:Int):=by rw[← hd];simp
 rw[hdi] at hd0 hd1 hT;rw[hd] at hw;have D1:IntKind.u64.wrap (d:Int)=(d:Int):=ace _ (by omega) (by omega);have D2:IntKind.u64.wrap ((x:Int)*16384+(d:Int))=(x:Int)*16384+(d:Int):=ace _ (by omega) (by omega);have U:IntKind.u32.wrap ((x:Int)*16384+(d:Int))=arO (anq p):=by
  rw[hw,anf,IntKind.wrap_u32];simp
 have H1:=Lib.hid hNb;have H2:=Lib.hid hN1;have hxx0:0≤(x:Int)*(x:Int):=by omega
 have hp0:0≤(p:Int):=by omega
 clear hNb hN1 hx2 hxx2 hx3 hf1 hf2 hN hw hre hr hrr h3xx hd hd1;go_enter Tryz.func265,Tryz.ntmps265;go_wp2_with fail;refine (HC.out _ H2.out H1.out).mono ?_;rintro e w' ⟨rfl,rfl⟩;go_wp2_with fail;go_ret;exact ⟨rfl,rfl⟩
end Go.Proofs.YthmhklmkgkfcpaaGreatDoor
