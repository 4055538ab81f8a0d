import Derived.Test.YthmhklmkgkfcpaaGreatDoorT2
import Derived.Test.YthmhklmkgkfcpaaGreatDoorT7
import Derived.Test.YthmhklmkgkfcpaaGreatDoorProg
import Derived.IntWalk
import Derived.Lib.Hide
import Derived.BigQuiet
import Derived.Deep.QuietTactic
import Derived.Outline
import Derived.WalkSpells
import Derived.StillTailTactics
import Derived.Deep.RegionHeld3
set_option linter.unusedVariables false
set_option linter.unusedSimpArgs false
set_option maxHeartbeats 8000000
set_option maxRecDepth 100000
namespace Go.Proofs.YthmhklmkgkfcpaaGreatDoor
open Go.RowKit
attribute [local go_sem] agu aoV ant aoW u_or anu ajp
theorem and31 (x:Int)(h₀:0≤x)(h₁:x<2 ^ 64):bits .and .u64 x 31=x % 32:=
 bits_mask .u64 64 (by decide) (fun n h0 h1=>by simp[IntKind.wrap,IntKind.bits,IntKind.signed];omega) 5 (by decide) x h₀ h₁
theorem arw (i:Nat)(h0:0<i)(h1:i<32):bits .and .u64 (IntKind.u64.wrap (-(i:Int))) 31=32 - (i:Int):=by
 have hw:IntKind.u64.wrap (-(i:Int))=18446744073709551616 - i:=by
  simp[IntKind.wrap,IntKind.bits,IntKind.signed];omega
 rw[hw,and31 _ (by omega) (by omega)];omega
theorem ahW (i:Nat)(x:UInt32)(w:World)(h0:0<i)(h1:i<32):
  Calls Tryz.prog 273 #[.int .u32 (ar1 x),.int .i64 (-(i:Int))] w fun e w'=>e=.returned (.int .u32 (ar1 (rotr i x)))∧w=w':=by
 have ht:=arw i h0 h1;have e1:(32 - (i:Int)).toNat=32 - i:=by omega
 have e2:IntKind.u64.wrap (32 - (32 - (i:Int)))=i:=by simp[IntKind.wrap,IntKind.bits,IntKind.signed];omega
 go_enter Tryz.func273,Tryz.ntmps273;go_wp2;go_ret;exact ⟨by rw[aoX];rfl,rfl⟩
theorem ahX (i j k:Nat)(x:UInt32)(w:World)(hi:0<i∧i<32)(hj:0<j∧j<32)(hk:0<k∧k<32):
  Calls Tryz.prog 268 #[.int .u32 (ar1 x),.int .i64 i,.int .i64 j,.int .i64 k] w fun e w'=>e=.returned (.int .u32 (ar1 (big i j k x)))∧w=w':=by
 have n:∀ i:Nat,i<32→IntKind.i64.wrap (-(i:Int)) = -i:=fun i h=>by rw[IntKind.wrap_i64];omega
 have ni:=n i hi.2;have nj:=n j hj.2;have nk:=n k hk.2;obtain ⟨hi0,hi1⟩:=hi;obtain ⟨hj0,hj1⟩:=hj;obtain ⟨hk0,hk1⟩:=hk;clear n;go_enter Tryz.func268,Tryz.ntmps268;go_wp2_with ((go_at_call 273;refine (ahW _ _ _ (by assumption) (by assumption)).mono ?_;rintro e w' ⟨rfl,rfl⟩))
 go_ret;exact ⟨rfl,rfl⟩
theorem aoY (x:UInt32)(w:World):Calls Tryz.prog 268 #[.int .u32 (ar1 x),.int .i64 6,.int .i64 11,.int .i64 25] w fun e w'=>e=.returned (.int .u32 (ar1 (big 6 11 25 x)))∧w=w':=
 ahX 6 11 25 x w (by decide) (by decide) (by decide)
theorem alu (x:UInt32)(w:World):Calls Tryz.prog 268 #[.int .u32 (ar1 x),.int .i64 2,.int .i64 13,.int .i64 22] w fun e w'=>e=.returned (.int .u32 (ar1 (big 2 13 22 x)))∧w=w':=
 ahX 2 13 22 x w (by decide) (by decide) (by decide)
theorem agv (i j k:Nat)(x:UInt32)(w:World)(hi:0<i∧i<32)(hj:0<j∧j<32)(hk:0<k∧k<32):
  Calls Tryz.prog 272 #[.int .u32 (ar1 x),.int .i64 i,.int .i64 j,.int .i64 k] w fun e w'=>e=.returned (.int .u32 (ar1 (small i j k x)))∧∃ n,w'=w.drewN n:=by
 have n:∀ i:Nat,i<32→IntKind.i64.wrap (-(i:Int)) = -i:=fun i h=>by rw[IntKind.wrap_i64];omega
 have ni:=n i hi.2;have nj:=n j hj.2;have hs:=ajp k x;obtain ⟨hi0,hi1⟩:=hi;obtain ⟨hj0,hj1⟩:=hj;obtain ⟨hk0,hk1⟩:=hk;clear n;go_enter Tryz.func272,Tryz.ntmps272;go_wp2;go_quiet ((go_at_call 273;exact afe (ahW _ _ _ (by assumption) (by assumption))))
 go_wp2;go_ret;exact ⟨rfl,_,rfl⟩
theorem anz (x:UInt32)(w:World):Calls Tryz.prog 272 #[.int .u32 (ar1 x),.int .i64 17,.int .i64 19,.int .i64 10] w fun e w'=>e=.returned (.int .u32 (ar1 (small 17 19 10 x)))∧∃ n,w'=w.drewN n:=
 agv 17 19 10 x w (by decide) (by decide) (by decide)
theorem anA (x:UInt32)(w:World):Calls Tryz.prog 272 #[.int .u32 (ar1 x),.int .i64 7,.int .i64 18,.int .i64 3] w fun e w'=>e=.returned (.int .u32 (ar1 (small 7 18 3 x)))∧∃ n,w'=w.drewN n:=
 agv 7 18 3 x w (by decide) (by decide) (by decide)
theorem aoZ (i:Nat)(x:UInt32)(w:World)(h0:0<i)(h1:i<32):
  Calls Tryz.prog 258 #[.int .u32 (ar1 x),.int .u32 i] w fun e w'=>e=.returned (.int .u32 (ar1 (rotr i x)))∧w=w':=by
 have e2:IntKind.u32.wrap (32 - (i:Int))=32 - i:=by rw[IntKind.wrap_u32];omega
 have e1:(32 - (i:Int)).toNat=32 - i:=by omega
 have hs:=ajp i x;have hl:=anu (32 - i) x;go_enter Tryz.func258,Tryz.ntmps258;go_wp2;go_ret;exact ⟨rfl,rfl⟩
def ub (b:UInt8):Int:=(b.toNat:Int)
theorem acb (b:UInt8):0≤ub b:=Int.natCast_nonneg _
theorem ajs (b:UInt8):ub b<256:=by unfold ub;have:=b.toNat_lt;omega
theorem ahY (a b c d:UInt8):ub a*16777216+ub b*65536+ub c*256+ub d=ar1 (adW a b c d):=by
 unfold adW ub;have:=a.toNat_lt;have:=b.toNat_lt;have:=c.toNat_lt;have:=d.toNat_lt;rw[u_of _ (by omega)];omega
theorem Rd.row {w:World}{a:Option Addr}{n c:Nat}{l:List UInt8}(h:Rd w (.slice a n c) l)(hn:0<n):
 ∃ b off,a=some ⟨b,off,none⟩∧b<w.heap.size∧∀ i,i<n→w.cell? ⟨b,off+i,none⟩=some (.int .u8 (ub (l.getD i 0))):=h.at 0 hn
theorem ao0 (v:Value)(l:List UInt8)(at':Nat)(w:World)(h:Rd w v l)(hl:at'+4≤l.length):
  Calls Tryz.prog 257 #[v,.int .i64 at'] w fun e w'=>e=.returned (.int .u32 (ar1 (adW (l.getD at' 0) (l.getD (at'+1) 0) (l.getD (at'+2) 0) (l.getD (at'+3) 0))))∧∃ n,w'=w.drewN n:=by
 obtain ⟨a,c,rfl,h1,h2⟩:=h.shape;unfold maxLen at h2;obtain ⟨b,off,rfl,hb,hc⟩:=h.row (by omega);have c0:=hc at' (by omega);have c1:=hc (at'+1) (by omega);have c2:=hc (at'+2) (by omega);have c3:=hc (at'+3) (by omega);have hs:=ahY (l.getD at' 0) (l.getD (at'+1) 0) (l.getD (at'+2) 0) (l.getD (at'+3) 0);generalize l.getD at' 0=x0 at *;generalize l.getD (at'+1) 0=x1 at *;generalize l.getD (at'+2) 0=x2 at *;generalize l.getD (at'+3) 0=x3 at *;have b0:=acb x0;have b1:=acb x1;have b2:=acb x2;have b3:=acb x3;have d0:=ajs x0;have d1:=ajs x1;have d2:=ajs x2;have d3:=ajs x3;clear hc;have i0:(at':Int)<(l.length:Int):=by omega
 have i1:(at':Int)+1<(l.length:Int):=by omega
 have i2:(at':Int)+2<(l.length:Int):=by omega
 have i3:(at':Int)+3<(l.length:Int):=by omega
 have n1:(0:Int)≤(at':Int)+1:=by omega
 have n2:(0:Int)≤(at':Int)+2:=by omega
 have n3:(0:Int)≤(at':Int)+3:=by omega
 have k1:IntKind.i64.wrap ((at':Int)+1)=(at':Int)+1:=IntWalk.i64_in _ (by omega);have k2:IntKind.i64.wrap ((at':Int)+2)=(at':Int)+2:=IntWalk.i64_in _ (by omega);have k3:IntKind.i64.wrap ((at':Int)+3)=(at':Int)+3:=IntWalk.i64_in _ (by omega);have arV:((at':Int)+1).toNat=at'+1:=by omega
 have t2:((at':Int)+2).toNat=at'+2:=by omega
 have t3:((at':Int)+3).toNat=at'+3:=by omega
 have W:∀ x:Int,0≤x→x<4294967296→IntKind.u32.wrap x=x:=fun x h0 h1=>by rw[IntKind.wrap_u32];omega
 have v0:=W (ub x0) (by omega) (by omega);have v1:=W (ub x1) (by omega) (by omega);have v2:=W (ub x2) (by omega) (by omega);have v3:=W (ub x3) (by omega) (by omega);have m0:=W (ub x0*16777216) (by omega) (by omega);have m1:=W (ub x1*65536) (by omega) (by omega);have m2:=W (ub x2*256) (by omega) (by omega);have s1:=W (ub x0*16777216+ub x1*65536) (by omega) (by omega);have s2:=W (ub x0*16777216+ub x1*65536+ub x2*256) (by omega) (by omega);have s3:=W (ub x0*16777216+ub x1*65536+ub x2*256+ub x3) (by omega) (by omega);have H:=Lib.hid hs;clear W hs b0 b1 b2 b3 d0 d1 d2 d3;go_enter Tryz.func257,Tryz.ntmps257;go_wp2;go_quiet (fail)
 go_wp2;go_ret;exact ⟨by rw[← H.out];rfl,_,rfl⟩
theorem aiv (n:Int)(x:UInt32)(w:World)(h0:0<n)(h1:n<32):
  Calls Tryz.prog 258 #[.int .u32 (ar1 x),.int .u32 n] w fun e w'=>e=.returned (.int .u32 (ar1 (rotr n.toNat x)))∧w=w':=by
 obtain ⟨i,rfl⟩:=Int.eq_ofNat_of_zero_le (Int.le_of_lt h0);rw[Int.toNat_natCast];exact aoZ i x w (by omega) (by omega)
theorem ao1 (x:Int)(v:Value)(l:List UInt8)(at':Nat)(w:World)(h:Rd w v l)(hl:at'+4≤l.length)(hx:x=at'):
  Calls Tryz.prog 257 #[v,.int .i64 x] w fun e w'=>e=.returned (.int .u32 (ar1 (adW (l.getD at' 0) (l.getD (at'+1) 0) (l.getD (at'+2) 0) (l.getD (at'+3) 0))))∧∃ n,w'=w.drewN n:=by
 subst hx;exact ao0 v l at' w h hl
theorem acc (x:Int)(h0:0≤x)(h1:x<18446744073709551616):IntKind.u64.wrap x=x:=by
 simp[IntKind.wrap,IntKind.bits,IntKind.signed];omega
theorem ajt (n:Nat)(w:World)(h0:1≤n)(h1:(n:Int)<9223372036854775808):
  Calls Tryz.prog 271 #[.int .u64 n] w fun e w'=>e=.returned (.int .u64 (aby n))∧w=w':=by
 obtain ⟨R,hR⟩:∃ R,aby n=R:=⟨_,rfl⟩;rw[hR];unfold aby at hR;have HR:=Lib.hid hR;clear hR;go_enter Tryz.func271,Tryz.ntmps271;go_wp2_with fail;go_loopw[3] (fun x wr=>(∃ k:Nat,x=.int .u64 k∧1≤k∧(k:Int)≤2097152∧∃ f,k≤f∧agw f n k=R)∧wr=w) (fun x _=>(intOf x).toNat)
 case atStart=>exact ⟨⟨2097152,rfl,by decide,by decide,2097152,Nat.le_refl _,HR.out⟩,rfl⟩
 case round=>
  obtain ⟨⟨k,rfl,hk1,hk2,f,hf,hc⟩,rfl⟩:=hrel;have HC:=Lib.hid hc;have hkk:(1:Int)≤(k:Int)*(k:Int):=by
   have:=Nat.mul_le_mul hk1 hk1;have h2:((1*1:Nat):Int)≤((k*k:Nat):Int):=by omega
   rwa [Int.natCast_mul] at h2
  have hkk2:(k:Int)*(k:Int)≤4398046511104:=by
   have h2:=Int.mul_le_mul hk2 hk2 (by omega) (by omega);exact h2
  have hne:¬(k:Int)*(k:Int)=0:=by omega
  have m1:IntKind.u64.wrap (2*(k:Int))=2*(k:Int):=acc _ (by omega) (by omega);have m2:IntKind.u64.wrap ((k:Int)*(k:Int))=(k:Int)*(k:Int):=acc _ (by omega) (by omega);have hd0:0≤(n:Int) / ((k:Int)*(k:Int)):=Int.ediv_nonneg (by omega) (by omega);have hd1:(n:Int) / ((k:Int)*(k:Int))≤(n:Int):=Int.ediv_le_self _ (by omega);have m3:IntKind.u64.wrap (2*(k:Int)+(n:Int) / ((k:Int)*(k:Int)))=2*(k:Int)+(n:Int) / ((k:Int)*(k:Int)):=acc _ (by omega) (by omega);have m0:IntKind.u64.wrap ((n:Int) / ((k:Int)*(k:Int)))=(n:Int) / ((k:Int)*(k:Int)):=acc _ (by omega) (by omega);have hq:(2*(k:Int)+(n:Int) / ((k:Int)*(k:Int))).tdiv 3=((aa9 n k:Nat):Int):=by
   rw[Int.tdiv_eq_ediv_of_nonneg (by omega)];unfold aa9;simp
  have hq1:=afH n k h0 hk1;have hq2:((aa9 n k:Nat):Int)<18446744073709551616:=by
   rw[← hq,Int.tdiv_eq_ediv_of_nonneg (by omega)];omega
  have m5:IntKind.u64.wrap ((aa9 n k:Nat):Int)=((aa9 n k:Nat):Int):=acc _ (by omega) hq2;obtain ⟨q,hqq⟩:∃ q,aa9 n k=q:=⟨_,rfl⟩;rw[hqq] at hq hq1 m5;have HQ:=Lib.hid hqq;have B:=Lib.hid (And.intro hk2 (And.intro hkk2 h1));clear hc hk2 hkk2 h1 HR hd1 hq2 hqq;by_cases hge:k≤q
  ·go_wp2_with fail
   go_ret;exact ⟨by rw[← HC.out,al4 f n k (by rw[HQ.out];exact hge)];rfl,rfl⟩
  ·go_wp2_with fail
   go_roundw
   case rel=>
    obtain ⟨g,hg1,hg2⟩:=ao3 f n k hf (by rw[HQ.out];exact hge);have:=B.out.1;rw[HQ.out] at hg1 hg2;exact ⟨⟨q,rfl,hq1,by omega,g,hg1,hg2.trans HC.out⟩,trivial⟩
   case measure=>simp[intOf];omega
theorem aju (p:Nat)(w:World)(h0:1≤p)(h1:p<312):
  Calls Tryz.prog 265 #[.int .u64 p] w fun e w'=>e=.returned (.int .u32 (ar1 (anD p)))∧w=w':=by
 have hfit:fits p=true:=(ao4 ⟨p,h1⟩).resolve_left (by simp;omega);unfold fits at hfit;simp only[Bool.and_eq_true,decide_eq_true_eq] at hfit;obtain ⟨hf1,hf2⟩:=hfit;have hN:((abG p:Nat):Int)=(p:Int)*18014398509481984:=by unfold abG;simp
 have hr:=agx 2097152 (abG p) 2097152 (by unfold abG;omega) (by decide);have hw:anD p=UInt32.ofNat (aqv p):=rfl;have hb:aqv p=aby (abG p)*16384+anC p*16384 / (3*aby (abG p)*aby (abG p)):=rfl;have hre:anC p=abG p - aby (abG p)*aby (abG p)*aby (abG p):=rfl;change 1≤aby (abG p)∧aby (abG p)≤2097152 at hr;have hNb:((abG p:Nat):Int)<9223372036854775808:=by rw[hN];omega
 have hN1:1≤abG p:=by unfold abG;omega
 have HC:=Lib.hid (ajt (abG p));rw[hb] at hw;generalize aby (abG p)=x at *;generalize abG p=N at *;generalize anC p=r at *;clear hb;have hx1:(1:Int)≤(x:Int):=by omega
 have hx2:(x:Int)≤2097152:=by omega
 have hxx:(1:Int)≤(x:Int)*(x:Int):=by
  have:=Nat.mul_le_mul hr.1 hr.1;have h2:((1*1:Nat):Int)≤((x*x:Nat):Int):=by omega
  rwa [Int.natCast_mul] at h2
 have hxx2:(x:Int)*(x:Int)≤4398046511104:=by
  have h2:=Int.mul_le_mul hx2 hx2 (by omega) (by omega);exact h2
 have hx3:(x:Int)*(x:Int)*(x:Int)≤(N:Int):=by
  have h2:((x*x*x:Nat):Int)≤((N:Nat):Int):=by omega
  rwa [Int.natCast_mul,Int.natCast_mul] at h2
 have hx30:0≤(x:Int)*(x:Int)*(x:Int):=Int.mul_nonneg (by omega) (by omega);have h3xx:3*(x:Int)*(x:Int)=3*((x:Int)*(x:Int)):=by rw[Int.mul_assoc]
 have A:IntKind.u64.wrap ((p:Int)*18014398509481984)=(N:Int):=by rw[← hN];exact acc _ (by omega) (by omega)
 have X2:IntKind.u64.wrap ((x:Int)*(x:Int))=(x:Int)*(x:Int):=acc _ (by omega) (by omega);have X3:IntKind.u64.wrap ((x:Int)*(x:Int)*(x:Int))=(x:Int)*(x:Int)*(x:Int):=acc _ hx30 (by omega);have hrr:(r:Int)=(N:Int) - (x:Int)*(x:Int)*(x:Int):=by
  have:((x*x*x:Nat):Int)=(x:Int)*(x:Int)*(x:Int):=by rw[Int.natCast_mul,Int.natCast_mul]
  omega
 have R:IntKind.u64.wrap ((N:Int) - (x:Int)*(x:Int)*(x:Int))=(r:Int):=by rw[← hrr];exact acc _ (by omega) (by omega)
 have S1:IntKind.u64.wrap ((x:Int)*16384)=(x:Int)*16384:=acc _ (by omega) (by omega);have S2:IntKind.u64.wrap ((r:Int)*16384)=(r:Int)*16384:=acc _ (by omega) (by omega);have T1:IntKind.u64.wrap (3*(x:Int))=3*(x:Int):=acc _ (by omega) (by omega);have T2:IntKind.u64.wrap (3*(x:Int)*(x:Int))=3*(x:Int)*(x:Int):=acc _ (by omega) (by omega);have hne:¬(3*(x:Int)*(x:Int)=0):=by omega
 have hd0:0≤(r:Int)*16384 / (3*(x:Int)*(x:Int)):=Int.ediv_nonneg (by omega) (by omega);have hd1:(r:Int)*16384 / (3*(x:Int)*(x:Int))≤(r:Int)*16384:=Int.ediv_le_self _ (by omega);have hT:((r:Int)*16384).tdiv (3*(x:Int)*(x:Int))=(r:Int)*16384 / (3*(x:Int)*(x:Int)):=Int.tdiv_eq_ediv_of_nonneg (by omega);obtain ⟨d,hd⟩:∃ d:Nat,r*16384 / (3*x*x)=d:=⟨_,rfl⟩;have hdi:(r:Int)*16384 / (3*(x:Int)*(x:Int))=(d:Int):=by rw[← hd];simp
 rw[hdi] at hd0 hd1 hT;rw[hd] at hw;have D1:IntKind.u64.wrap (d:Int)=(d:Int):=acc _ (by omega) (by omega);have D2:IntKind.u64.wrap ((x:Int)*16384+(d:Int))=(x:Int)*16384+(d:Int):=acc _ (by omega) (by omega);have U:IntKind.u32.wrap ((x:Int)*16384+(d:Int))=ar1 (anD p):=by
  rw[hw,anr,IntKind.wrap_u32];simp
 have H1:=Lib.hid hNb;have H2:=Lib.hid hN1;have hxx0:0≤(x:Int)*(x:Int):=by omega
 have hp0:0≤(p:Int):=by omega
 clear hNb hN1 hx2 hxx2 hx3 hf1 hf2 hN hw hre hr hrr h3xx hd hd1;go_enter Tryz.func265,Tryz.ntmps265;go_wp2_with fail;refine (HC.out _ H2.out H1.out).mono ?_;rintro e w' ⟨rfl,rfl⟩;go_wp2_with fail;go_ret;exact ⟨rfl,rfl⟩
attribute [local go_sem] agu aoV ant aoW u_or anu ajp
def aaD (n:Nat):List UInt32:=List.replicate n 0
theorem aaR (n:Nat):(aaD n).length=n:=by simp[aaD]
theorem aaL (l:List UInt8):∀ t,(acA l t).length=t
 | 0=>rfl
 | t+1=>by simp[acA,aaL l t]
def upto (l:List UInt8)(t:Nat):List UInt32:=acA l t++aaD (64 - t)
theorem acD (l:List UInt8)(t:Nat)(h:t≤64):(upto l t).length=64:=by simp[upto,aaL,aaR];omega
theorem af8 (l:List UInt8)(t:Nat)(h:t<64):(upto l t).set t (ab6 l (acA l t) t)=upto l (t+1):=by
 unfold upto aaD;rw[List.set_append_right _ _ (by rw[aaL];omega),aaL,Nat.sub_self,show 64 - t=(64 - (t+1))+1 by omega,List.replicate_succ];simp[acA]
theorem acO (l:List UInt8)(t i:Nat)(h:i<t):(upto l t).getD i 0=(acA l t).getD i 0:=by
 unfold upto;rw[List.getD_eq_getElem?_getD,List.getElem?_append_left (by rw[aaL];exact h),List.getD_eq_getElem?_getD]
theorem alv (l:List UInt8):upto l 64=acA l 64:=by simp[upto,aaD]
theorem ajv (n:Nat):aam (aaD n)=Array.replicate n (.int .u32 0):=by
 apply Array.ext';simp[aam,aaD,anv,ar1]
theorem aa5 (n:Int)(h₀:0≤n)(h₁:n<2 ^ 32):IntKind.u32.wrap n=n:=by rw[IntKind.wrap_u32];omega
theorem ao6 (a b c d:UInt8):
  (IntKind.u32.wrap (ub a)=ub a∧IntKind.u32.wrap (ub b)=ub b∧IntKind.u32.wrap (ub c)=ub c∧IntKind.u32.wrap (ub d)=ub d) ∧
  (IntKind.u32.wrap (ub a*16777216)=ub a*16777216∧IntKind.u32.wrap (ub b*65536)=ub b*65536∧IntKind.u32.wrap (ub c*256)=ub c*256) ∧
  (bits .or .u32 (ub a*16777216) (ub b*65536)=ub a*16777216+ub b*65536 ∧
   bits .or .u32 (ub a*16777216+ub b*65536) (ub c*256)=ub a*16777216+ub b*65536+ub c*256 ∧
   bits .or .u32 (ub a*16777216+ub b*65536+ub c*256) (ub d)=ar1 (adW a b c d)):=by
 have hs:=ahY a b c d;have a0:=acb a;have b0:=acb b;have c0:=acb c;have d0:=acb d;have a1:=ajs a;have b1:=ajs b;have c1:=ajs c;have d1:=ajs d;refine ⟨⟨aa5 _ (by omega) (by omega),aa5 _ (by omega) (by omega),aa5 _ (by omega) (by omega),aa5 _ (by omega) (by omega)⟩,
  ⟨aa5 _ (by omega) (by omega),aa5 _ (by omega) (by omega),aa5 _ (by omega) (by omega)⟩,?_,?_,?_⟩
 ·exact bits_join .u32 32 (by decide) aa5 24 _ _ (by omega) (by omega) (by omega) (by omega) (by omega) (by omega)
 ·exact bits_join .u32 32 (by decide) aa5 16 _ _ (by omega) (by omega) (by omega) (by omega) (by omega) (by omega)
 ·rw[bits_join .u32 32 (by decide) aa5 8 _ _ (by omega) (by omega) (by omega) (by omega) (by omega) (by omega),hs]
def got (W:World)(p:Addr):Value:=(W.cell? p).getD undef
def So (T:TypeId)(w:World)(g:Nat)(L:List UInt32)(t:Nat)(W:World):Prop:=∃ x,Arr T W (g+1) (L.set t x)∧Arr T W g (aaD 64)∧Below g w W
theorem So.start {T:TypeId}{w W:World}{g:Nat}{L:List UInt32}{t:Nat}(ht:t<L.length)(h:Arr T W (g+1) L)(h0:Arr T W g (aaD 64))(hk:Below g w W):So T w g L t W:=
 ⟨L[t],by rw[List.set_getElem_self];exact h,h0,hk⟩
theorem So.drewN {T:TypeId}{w W:World}{g:Nat}{L:List UInt32}{t:Nat}(h:So T w g L t W)(n:Nat):So T w g L t (W.drewN n):=by
 obtain ⟨x,h1,h2,h3⟩:=h;exact ⟨x,h1.drewN n,h2.drewN n,h3.trans ((Kp.refl W).drewN n |>.mono (by have:=h2.lt;omega))⟩
theorem So.drew {T:TypeId}{w W:World}{g:Nat}{L:List UInt32}{t:Nat}(h:So T w g L t W):So T w g L t W.drew:=h.drewN 1
theorem So.set {T:TypeId}{w W:World}{g:Nat}{L:List UInt32}{t:Nat}(h:So T w g L t W)(y:UInt32):So T w g L t (W.setCell ⟨g+1,t,none⟩ (.int .u32 (ar1 y))):=by
 obtain ⟨x,h1,h2,h3⟩:=h;refine ⟨y,?_,h2.other _ _ (by simp),h3.setCell (p:=⟨g+1,t,none⟩) (by simp) _⟩;have:=h1.set t y _ rfl;rwa [List.set_set] at this
theorem So.facts {T:TypeId}{w W:World}{g:Nat}{L:List UInt32}{t:Nat}(ht:t<L.length)(h16:16≤t)(x2 x7 x15 x16:UInt32)(e2:L.getD (t - 2) 0=x2)(e7:L.getD (t - 7) 0=x7)(e15:L.getD (t - 15) 0=x15)(e16:L.getD (t - 16) 0=x16)
  (h:So T w g L t W):W.cell? ⟨g+1,t - 2,none⟩=some (.int .u32 (ar1 x2))∧W.cell? ⟨g+1,t - 7,none⟩=some (.int .u32 (ar1 x7))∧W.cell? ⟨g+1,t - 15,none⟩=some (.int .u32 (ar1 x15))∧W.cell? ⟨g+1,t - 16,none⟩=some (.int .u32 (ar1 x16)) ∧
   W.cell? ⟨g+1,t,none⟩=some (got W ⟨g+1,t,none⟩)∧W.frozen? ⟨g+1,t,none⟩=false∧So T w g L t W:=by
 have h':=h;obtain ⟨x,h1,h2,h3⟩:=h';have hl:(L.set t x).length=L.length:=by simp
 have k:∀ i,i<t→W.cell? ⟨g+1,i,none⟩=some (.int .u32 (ar1 (L.getD i 0))):=fun i hi=>by
  have:=h1.cell i (by rw[hl];omega);rw[this,List.getD_eq_getElem?_getD,List.getElem?_set_ne (by omega),List.getD_eq_getElem?_getD]
 subst e2 e7 e15 e16;refine ⟨k _ (by omega),k _ (by omega),k _ (by omega),k _ (by omega),?_,h1.frozen t (by omega),h⟩;have:=h1.cell t (by omega);unfold got;rw[this];rfl
theorem ajw (v:Value)(l:List UInt8)(w:World)(h:Rd w v l)(hl:l.length=64):
  Calls Tryz.prog 267 #[v] w fun e w'=>e=.returned (.agg (aam (acA l 64)))∧Kp w w':=by
 obtain ⟨a,c,rfl,h1,h2⟩:=h.shape;rw[hl] at h h1 ⊢;unfold maxLen at h2;obtain ⟨b,off,rfl,hb,hc⟩:=h.row (by omega);go_enter Tryz.func267,Tryz.ntmps267;go_wp2_with fail;go_loopw[7] (fun i wr=>∃ t:Nat,t≤16∧i=.int .i64 t∧Arr 264 wr w.heap.size (aaD 64)∧Arr 264 wr (w.heap.size+1) (upto l t)∧Kp w wr) (fun i _=>16 - (intOf i).toNat)
 case atStart=>
  refine ⟨0,by omega,rfl,?_,?_,((Kp.refl w).alloc _).alloc _⟩
  ·exact (Arr.new _ _ _ (aaD 64) rfl).alloc _
  ·have:=Arr.new 264 (w.alloc (.cells (aam (aaD 64)) 264)) (aam (aaD 64)) (upto l 0) rfl
   rw[World.size_alloc] at this;exact this
 case round=>
  obtain ⟨t,ht,rfl,hA0,hA,hk⟩:=hrel;by_cases hlt:t<16
  ·have c0:=hk.cell (hc (4*t) (by omega))
   have c1:=hk.cell (hc (4*t+1) (by omega));have c2:=hk.cell (hc (4*t+2) (by omega));have c3:=hk.cell (hc (4*t+3) (by omega));have hn:ab6 l (acA l t) t=adW (l.getD (4*t) 0) (l.getD (4*t+1) 0) (l.getD (4*t+2) 0) (l.getD (4*t+3) 0):=by unfold ab6;rw[if_pos hlt]
   have hset:=(af8 l t (by omega));rw[hn] at hset;have hA':=hA.set t (adW (l.getD (4*t) 0) (l.getD (4*t+1) 0) (l.getD (4*t+2) 0) (l.getD (4*t+3) 0)) _ rfl;rw[hset] at hA';have hA0':=hA0.other ⟨w.heap.size+1,t,none⟩ (.int .u32 (ar1 (adW (l.getD (4*t) 0) (l.getD (4*t+1) 0) (l.getD (4*t+2) 0) (l.getD (4*t+3) 0)))) (by simp);have hk':=Below.setCell hk (p:=⟨w.heap.size+1,t,none⟩) (by simp) (.int .u32 (ar1 (adW (l.getD (4*t) 0) (l.getD (4*t+1) 0) (l.getD (4*t+2) 0) (l.getD (4*t+3) 0))));have ca:=hA.cell t (by rw[acD l t (by omega)];omega);have cf:=hA.frozen t (by rw[acD l t (by omega)];omega);generalize l.getD (4*t) 0=x0 at *;generalize l.getD (4*t+1) 0=x1 at *;generalize l.getD (4*t+2) 0=x2 at *;generalize l.getD (4*t+3) 0=x3 at *;obtain ⟨⟨v0,v1,v2,v3⟩,⟨m0,m1,m2⟩,o1,o2,o3⟩:=ao6 x0 x1 x2 x3;simp only[← Nat.add_assoc] at c1 c2 c3;have H:=Lib.hid hset;have e4:4*t+4 - 4*t=4:=by omega
   clear hc hset hn;go_wp2_with fail;rw[e4];have ht64:(t:Int)<64:=by omega
   go_still_tail 24,(by kernel_rfl)
   go_wp2_with fail;go_roundw
   case rel=>exact ⟨t+1,by omega,by go_num,hA0'.drew,hA'.drew,hk'.drew⟩
   case measure=>simp[intOf];omega
  ·obtain rfl:t=16:=by omega
   clear hc hlt ht;go_wp2_with fail;go_loopw[6] (fun i wr=>∃ t:Nat,16≤t∧t≤64∧i=.int .i64 t∧Arr 264 wr w.heap.size (aaD 64)∧Arr 264 wr (w.heap.size+1) (upto l t)∧Kp w wr) (fun i _=>64 - (intOf i).toNat)
   case atStart=>exact ⟨16,by omega,by omega,rfl,hA0,hA,hk⟩
   case round=>
    clear hA0 hA hk;obtain ⟨t,h16,ht,rfl,hA0,hA,hk⟩:=hrel;by_cases hlt:t<64
    ·have hlen:=acD l t (by omega)
     have hn:ab6 l (acA l t) t=wadd (wadd (wadd (small 17 19 10 ((upto l t).getD (t - 2) 0)) ((upto l t).getD (t - 7) 0)) (small 7 18 3 ((upto l t).getD (t - 15) 0))) ((upto l t).getD (t - 16) 0):=by
      unfold ab6;rw[if_neg (by omega),acO l t _ (by omega),acO l t _ (by omega),acO l t _ (by omega),acO l t _ (by omega)]
     have hset:=(af8 l t (by omega));rw[hn] at hset;obtain ⟨x2,e2⟩:∃ x,(upto l t).getD (t - 2) 0=x:=⟨_,rfl⟩;obtain ⟨x7,e7⟩:∃ x,(upto l t).getD (t - 7) 0=x:=⟨_,rfl⟩;obtain ⟨x15,e15⟩:∃ x,(upto l t).getD (t - 15) 0=x:=⟨_,rfl⟩;obtain ⟨x16,e16⟩:∃ x,(upto l t).getD (t - 16) 0=x:=⟨_,rfl⟩;rw[e2,e7,e15,e16] at hset;have F:∀ W,So 264 w w.heap.size (upto l t) t W→_:=fun W h=>So.facts (by omega) h16 x2 x7 x15 x16 e2 e7 e15 e16 h
     have HF:=Lib.hid F;have S0:So 264 w w.heap.size (upto l t) t wr:=So.start (by omega) hA hA0 hk;have i2:IntKind.i64.wrap ((t:Int) - 2)=(t:Int) - 2:=IntWalk.i64_in _ (by omega);have i7:IntKind.i64.wrap ((t:Int) - 7)=(t:Int) - 7:=IntWalk.i64_in _ (by omega);have i15:IntKind.i64.wrap ((t:Int) - 15)=(t:Int) - 15:=IntWalk.i64_in _ (by omega);have i16:IntKind.i64.wrap ((t:Int) - 16)=(t:Int) - 16:=IntWalk.i64_in _ (by omega);have n2:((t:Int) - 2).toNat=t - 2:=by omega
     have n7:((t:Int) - 7).toNat=t - 7:=by omega
     have n15:((t:Int) - 15).toNat=t - 15:=by omega
     have n16:((t:Int) - 16).toNat=t - 16:=by omega
     have p2:(2:Int)≤(t:Int):=by omega
     have p7:(7:Int)≤(t:Int):=by omega
     have p15:(15:Int)≤(t:Int):=by omega
     have p16:(16:Int)≤(t:Int):=by omega
     have q2:(t:Int) - 2<64:=by omega
     have q7:(t:Int) - 7<64:=by omega
     have q15:(t:Int) - 15<64:=by omega
     have q16:(t:Int) - 16<64:=by omega
     have q:(t:Int)<64:=by omega
     have H:=Lib.hid hset;clear hset hn hlen F e2 e7 e15 e16;go_wp2_with fail;go_region_held3 (fun W=>W.cell? ⟨w.heap.size+1,t - 2,none⟩=some (.int .u32 (ar1 x2))∧W.cell? ⟨w.heap.size+1,t - 7,none⟩=some (.int .u32 (ar1 x7))∧W.cell? ⟨w.heap.size+1,t - 15,none⟩=some (.int .u32 (ar1 x15))∧W.cell? ⟨w.heap.size+1,t - 16,none⟩=some (.int .u32 (ar1 x16))∧W.cell? ⟨w.heap.size+1,t,none⟩=some (got W ⟨w.heap.size+1,t,none⟩)∧W.frozen? ⟨w.heap.size+1,t,none⟩=false∧So 264 w w.heap.size (upto l t) t W)
      (first
       | (with_reducible exact HF.out _ (S0.drew))
       | (with_reducible exact HF.out _ (S0.drewN _))
       | (with_reducible exact HF.out _ ((S0.drewN _).set _)))
      (first
       | (go_at_call 272;(with_reducible refine (anz _ _).mono ?_);rintro e w' ⟨rfl,n,rfl⟩)
       | (go_at_call 272;(with_reducible refine (anA _ _).mono ?_);rintro e w' ⟨rfl,n,rfl⟩))
     all_goals
      go_wp2_with fail;go_roundw
      case rel=>
       repeat apply Exists.intro
       refine ⟨?_,rfl⟩;exact ⟨t+1,by omega,by omega,by go_num,(hA0.drewN _).other _ _ (by simp),(hA.drewN _).setTo t _ H.out,Below.setCell (hk.drewN _) (by simp) _⟩
      case measure=>simp[intOf];omega
    ·obtain rfl:t=64:=by omega
     rw[alv] at hA;have hle:=hk.size;go_wp2_with (first
      | (refine aaC Tryz.underlying264 (by kernel_rfl) rfl (.tmp 3) rfl (w.heap.size+1) (acA l 64) rfl hA (aaL l 64) ?_)
      | (refine adJ (by kernel_rfl) rfl (.tmp 2) (.tmp 69) rfl w.heap.size (aaD 64) (acA l 64) rfl rfl hA0 (aaR 64) (aaL l 64) ?_))
     refine bodyPost_ret (abV Tryz.underlying264 (by kernel_rfl) rfl _ _ w.heap.size (acA l 64) rfl (hA0.setRow _) (aaL l 64)) rfl ?_;exact ⟨rfl,below_setRow hk (Nat.le_refl _) _⟩
end Go.Proofs.YthmhklmkgkfcpaaGreatDoor
