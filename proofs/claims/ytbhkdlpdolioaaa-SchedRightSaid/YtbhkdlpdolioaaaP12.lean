import Derived.Test.YtbhkdlpdolioaaaP7
import Derived.Test.YtbhkdlpdolioaaaProg
import Derived.IntWalk
import Derived.Lib.Hide
import Derived.Outline
import Derived.WalkSpells
set_option linter.unusedVariables false
set_option linter.unusedSimpArgs false
set_option maxHeartbeats 8000000
set_option maxRecDepth 100000
namespace Go.Proofs.Ytbhkdlpdolioaaa
open Go.RowKit
theorem aaM (x:Int)(h0:0≤x)(h1:x<18446744073709551616):IntKind.u64.wrap x=x:=by
 simp[IntKind.wrap,IntKind.bits,IntKind.signed];omega
theorem ac7 (n:Nat)(w:World)(h0:1≤n)(h1:(n:Int)<9223372036854775808):
  Calls Try.prog 96 #[.int .u64 n] w fun e w'=>e=.returned (.int .u64 (aay n))∧w=w':=by
 obtain ⟨R,hR⟩:∃ R,aay n=R:=⟨_,rfl⟩;rw[hR];unfold aay at hR;have HR:=Lib.hid hR;clear hR;go_enter Try.func96,Try.ntmps96;go_wp2_with fail;go_loopw[3] (fun x wr=>(∃ k:Nat,x=.int .u64 k∧1≤k∧(k:Int)≤2097152∧∃ f,k≤f∧acf f n k=R)∧wr=w) (fun x _=>(intOf x).toNat)
 case atStart=>exact ⟨⟨2097152,rfl,by decide,by decide,2097152,Nat.le_refl _,HR.out⟩,rfl⟩
 case round=>
  obtain ⟨⟨k,rfl,hk1,hk2,f,hf,hc⟩,rfl⟩:=hrel;have HC:=Lib.hid hc;have hkk:(1:Int)≤(k:Int)*(k:Int):=by
   have:=Nat.mul_le_mul hk1 hk1;have h2:((1*1:Nat):Int)≤((k*k:Nat):Int):=by omega
   rwa [Int.natCast_mul] at h2
  have hkk2:(k:Int)*(k:Int)≤4398046511104:=by
   have h2:=Int.mul_le_mul hk2 hk2 (by omega) (by omega);exact h2
  have hne:¬(k:Int)*(k:Int)=0:=by omega
  have m1:IntKind.u64.wrap (2*(k:Int))=2*(k:Int):=aaM _ (by omega) (by omega);have m2:IntKind.u64.wrap ((k:Int)*(k:Int))=(k:Int)*(k:Int):=aaM _ (by omega) (by omega);have hd0:0≤(n:Int) / ((k:Int)*(k:Int)):=Int.ediv_nonneg (by omega) (by omega);have hd1:(n:Int) / ((k:Int)*(k:Int))≤(n:Int):=Int.ediv_le_self _ (by omega);have m3:IntKind.u64.wrap (2*(k:Int)+(n:Int) / ((k:Int)*(k:Int)))=2*(k:Int)+(n:Int) / ((k:Int)*(k:Int)):=aaM _ (by omega) (by omega);have m0:IntKind.u64.wrap ((n:Int) / ((k:Int)*(k:Int)))=(n:Int) / ((k:Int)*(k:Int)):=aaM _ (by omega) (by omega);have hq:(2*(k:Int)+(n:Int) / ((k:Int)*(k:Int))).tdiv 3=((aat n k:Nat):Int):=by
   rw[Int.tdiv_eq_ediv_of_nonneg (by omega)];unfold aat;simp
  have hq1:=ab4 n k h0 hk1;have hq2:((aat n k:Nat):Int)<18446744073709551616:=by
   rw[← hq,Int.tdiv_eq_ediv_of_nonneg (by omega)];omega
  have m5:IntKind.u64.wrap ((aat n k:Nat):Int)=((aat n k:Nat):Int):=aaM _ (by omega) hq2;obtain ⟨q,hqq⟩:∃ q,aat n k=q:=⟨_,rfl⟩;rw[hqq] at hq hq1 m5;have HQ:=Lib.hid hqq;have B:=Lib.hid (And.intro hk2 (And.intro hkk2 h1));clear hc hk2 hkk2 h1 HR hd1 hq2 hqq;by_cases hge:k≤q
  ·go_wp2_with fail
   go_ret;exact ⟨by rw[← HC.out,ad5 f n k (by rw[HQ.out];exact hge)];rfl,rfl⟩
  ·go_wp2_with fail
   go_roundw
   case rel=>
    obtain ⟨g,hg1,hg2⟩:=ae7 f n k hf (by rw[HQ.out];exact hge);have:=B.out.1;rw[HQ.out] at hg1 hg2;exact ⟨⟨q,rfl,hq1,by omega,g,hg1,hg2.trans HC.out⟩,trivial⟩
   case measure=>simp[intOf];omega
theorem ac8 (p:Nat)(w:World)(h0:1≤p)(h1:p<312):
  Calls Try.prog 86 #[.int .u64 p] w fun e w'=>e=.returned (.int .u32 (af9 (aez p)))∧w=w':=by
 have hfit:fits p=true:=(ae8 ⟨p,h1⟩).resolve_left (by simp;omega);unfold fits at hfit;simp only[Bool.and_eq_true,decide_eq_true_eq] at hfit;obtain ⟨hf1,hf2⟩:=hfit;have hN:((aaD p:Nat):Int)=(p:Int)*18014398509481984:=by unfold aaD;simp
 have hr:=acg 2097152 (aaD p) 2097152 (by unfold aaD;omega) (by decide);have hw:aez p=UInt32.ofNat (afC p):=rfl;have hb:afC p=aay (aaD p)*16384+aey p*16384 / (3*aay (aaD p)*aay (aaD p)):=rfl;have hre:aey p=aaD p - aay (aaD p)*aay (aaD p)*aay (aaD p):=rfl;change 1≤aay (aaD p)∧aay (aaD p)≤2097152 at hr;have hNb:((aaD p:Nat):Int)<9223372036854775808:=by rw[hN];omega
 have hN1:1≤aaD p:=by unfold aaD;omega
 have HC:=Lib.hid (ac7 (aaD p));rw[hb] at hw;generalize aay (aaD p)=x at *;generalize aaD p=N at *;generalize aey p=r at *;clear hb;have hx1:(1:Int)≤(x:Int):=by omega
 have hx2:(x:Int)≤2097152:=by omega
 have hxx:(1:Int)≤(x:Int)*(x:Int):=by
  have:=Nat.mul_le_mul hr.1 hr.1;have h2:((1*1:Nat):Int)≤((x*x:Nat):Int):=by omega
  rwa [Int.natCast_mul] at h2
 have hxx2:(x:Int)*(x:Int)≤4398046511104:=by
  have h2:=Int.mul_le_mul hx2 hx2 (by omega) (by omega);exact h2
 have hx3:(x:Int)*(x:Int)*(x:Int)≤(N:Int):=by
  have h2:((x*x*x:Nat):Int)≤((N:Nat):Int):=by omega
  rwa [Int.natCast_mul,Int.natCast_mul] at h2
 have hx30:0≤(x:Int)*(x:Int)*(x:Int):=Int.mul_nonneg (by omega) (by omega);have h3xx:3*(x:Int)*(x:Int)=3*((x:Int)*(x:Int)):=by rw[Int.mul_assoc]
 have A:IntKind.u64.wrap ((p:Int)*18014398509481984)=(N:Int):=by rw[← hN];exact aaM _ (by omega) (by omega)
 have X2:IntKind.u64.wrap ((x:Int)*(x:Int))=(x:Int)*(x:Int):=aaM _ (by omega) (by omega);have X3:IntKind.u64.wrap ((x:Int)*(x:Int)*(x:Int))=(x:Int)*(x:Int)*(x:Int):=aaM _ hx30 (by omega);have hrr:(r:Int)=(N:Int) - (x:Int)*(x:Int)*(x:Int):=by
  have:((x*x*x:Nat):Int)=(x:Int)*(x:Int)*(x:Int):=by rw[Int.natCast_mul,Int.natCast_mul]
  omega
 have R:IntKind.u64.wrap ((N:Int) - (x:Int)*(x:Int)*(x:Int))=(r:Int):=by rw[← hrr];exact aaM _ (by omega) (by omega)
 have S1:IntKind.u64.wrap ((x:Int)*16384)=(x:Int)*16384:=aaM _ (by omega) (by omega);have S2:IntKind.u64.wrap ((r:Int)*16384)=(r:Int)*16384:=aaM _ (by omega) (by omega);have T1:IntKind.u64.wrap (3*(x:Int))=3*(x:Int):=aaM _ (by omega) (by omega);have T2:IntKind.u64.wrap (3*(x:Int)*(x:Int))=3*(x:Int)*(x:Int):=aaM _ (by omega) (by omega);have hne:¬(3*(x:Int)*(x:Int)=0):=by omega
 have hd0:0≤(r:Int)*16384 / (3*(x:Int)*(x:Int)):=Int.ediv_nonneg (by omega) (by omega);have hd1:(r:Int)*16384 / (3*(x:Int)*(x:Int))≤(r:Int)*16384:=Int.ediv_le_self _ (by omega);have hT:((r:Int)*16384).tdiv (3*(x:Int)*(x:Int))=(r:Int)*16384 / (3*(x:Int)*(x:Int)):=Int.tdiv_eq_ediv_of_nonneg (by omega);obtain ⟨d,hd⟩:∃ d:Nat,r*16384 / (3*x*x)=d:=⟨_,rfl⟩;have hdi:(r:Int)*16384 / (3*(x:Int)*(x:Int))=(d:Int):=by rw[← hd];simp
 rw[hdi] at hd0 hd1 hT;rw[hd] at hw;have D1:IntKind.u64.wrap (d:Int)=(d:Int):=aaM _ (by omega) (by omega);have D2:IntKind.u64.wrap ((x:Int)*16384+(d:Int))=(x:Int)*16384+(d:Int):=aaM _ (by omega) (by omega);have U:IntKind.u32.wrap ((x:Int)*16384+(d:Int))=af9 (aez p):=by
  rw[hw,aen,IntKind.wrap_u32];simp
 have H1:=Lib.hid hNb;have H2:=Lib.hid hN1;have hxx0:0≤(x:Int)*(x:Int):=by omega
 have hp0:0≤(p:Int):=by omega
 clear hNb hN1 hx2 hxx2 hx3 hf1 hf2 hN hw hre hr hrr h3xx hd hd1;go_enter Try.func86,Try.ntmps86;go_wp2_with fail;refine (HC.out _ H2.out H1.out).mono ?_;rintro e w' ⟨rfl,rfl⟩;go_wp2_with fail;go_ret;exact ⟨rfl,rfl⟩
end Go.Proofs.Ytbhkdlpdolioaaa
