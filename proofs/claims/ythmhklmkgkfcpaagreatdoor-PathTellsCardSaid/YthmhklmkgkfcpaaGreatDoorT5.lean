import Derived.Test.YthmhklmkgkfcpaaGreatDoorT3
import Derived.Test.YthmhklmkgkfcpaaGreatDoorT4
import Derived.Test.YthmhklmkgkfcpaaGreatDoorRows
import Derived.WalkSpells
import Derived.Lib.Hide
import Derived.Outline
import Derived.Lib.SmallJoins
import Derived.Lib.LaidTab
import Derived.Stop.LaidErr
import Derived.Deep.DeepHandedRow
set_option linter.unusedVariables false
set_option linter.unusedSimpArgs false
set_option maxHeartbeats 8000000
set_option maxRecDepth 100000
namespace Go.Proofs.YthmhklmkgkfcpaaGreatDoor
open Go.RowKit
theorem aqi {n:Int}(h:∀ i,i≤10→n≠((2 ^ i:Nat):Int)):isTB n=false:=by
 rw[Bool.eq_false_iff];intro h2;obtain ⟨K,hK,e⟩:=(aeP n).1 h2;exact h K hK e
theorem agn (n:Int)(w:World):Calls Tryz.prog 78 #[.int .i64 n] w fun e w'=>e=.returned (.bool (isTB n))∧w=w':=by
 have HP:Hid (∀ k,k<10→(((2 ^ k:Nat):Int))<1024∧(2*((2 ^ k:Nat):Int))=((2 ^ (k+1):Nat):Int)):=fun k hk=>by
  have:(2:Nat) ^ k<2 ^ 10:=Nat.pow_lt_pow_right (by omega) hk;have h2:=aal k;exact ⟨by omega,by omega⟩
 have HY:Hid (∀ k,k≤10→n=((2 ^ k:Nat):Int)→isTB n=true):=fun k hk e=>by rw[e];exact aeO k hk
 have HNO:Hid ((∀ i,i≤10→n≠((2 ^ i:Nat):Int))→isTB n=false):=aqi;generalize isTB n=b at *;go_enter Tryz.func78,Tryz.ntmps78;go_wp2_with fail;go_loop [3] (fun m=>∃ k:Nat,k≤10∧m=.int .i64 ((2 ^ k:Nat):Int)∧∀ i,i<k→n≠((2 ^ i:Nat):Int)) (fun m=>(1024 - (intOf m).toNat))
 case atStart=>exact ⟨0,by omega,rfl,fun i h=>by omega⟩
 case round=>
  obtain ⟨k,hk,rfl,hno⟩:=hrel;by_cases hlt:k<10
  ·obtain ⟨h1,h2⟩:=HP.out k hlt
   have HY2:=HY.out k hk;have HN:Hid (n≠((2 ^ k:Nat):Int)→∀ i,i<k+1→n≠((2 ^ i:Nat):Int)):=fun he i hi=>by
    rcases Nat.lt_or_eq_of_le (Nat.lt_succ_iff.1 hi) with h3 | h3
    ·exact hno i h3
    ·rw[h3];exact he
   have HM1:(1:Int)≤((2 ^ k:Nat):Int):=by have:=aaz k;exact_mod_cast this
   generalize ((2 ^ k:Nat):Int)=m at *;have hm0:0≤m∨m<0:=by omega
   by_cases he:n=m
   ·have HB:=Lib.hid (HY2 he)
    subst he;clear HY2 HN HY HNO h2 hno HP;go_wp2;go_ret;exact ⟨by rw[HB.out];rfl,rfl⟩
   ·have hne:¬m=n:=fun h=>he h.symm
    have HN2:=Lib.hid (HN.out he);have H2:=Lib.hid h2;by_cases hp:0≤m
    ·have hw:IntKind.i64.wrap (2*m)=2*m:=IntWalk.i64_in _ (by omega)
     have hm1:1≤m:=HM1;clear HY2 HN HY HNO h2 hno HP he hm0;go_wp2;go_round
     case rel=>exact ⟨k+1,by omega,by rw[← H2.out],HN2.out⟩
     case measure=>simp[intOf];omega
    ·exfalso
     have:0≤((2 ^ (k+1):Nat):Int):=Int.natCast_nonneg _;omega
  ·obtain rfl:k=10:=by omega
   have h10:((2 ^ 10:Nat):Int)=1024:=rfl;rw[h10];by_cases he:n=1024
   ·have HB:=Lib.hid (HY.out 10 (by omega) (by rw[he];rfl))
    subst he;clear HY HNO hno HP h10;go_wp2;go_ret;exact ⟨by rw[HB.out];rfl,rfl⟩
   ·have HB:=Lib.hid (HNO.out (fun i hi=>by
     rcases Nat.lt_or_eq_of_le hi with h3 | h3
     ·exact hno i h3
     ·rw[h3];exact he))
    have hne:¬(1024:Int)=n:=fun h=>he h.symm
    have hne2:((1024:Int)==n)=false:=beq_eq_false_iff_ne.2 hne;clear HY HNO hno HP h10 he;go_wp2;go_ret;exact ⟨by rw[HB.out];rfl,rfl⟩
theorem acw (x n:Int)(w:World)(hn:-9223372036854775808≤n∧n≤9223372036854775807):Calls Tryz.prog 95 #[.int .i64 x,.int .i64 n] w fun e w'=>e=.returned (.bool (inB x n))∧w=w':=by
 have HT:=Lib.hid (agn n w);by_cases ht:isTB n=true
 ·have h1:=acv ht
  have h2:IntKind.i64.wrap (2*n)=2*n:=IntWalk.i64_in _ (by omega);have h3:IntKind.i64.wrap (2*n - 1)=2*n - 1:=IntWalk.i64_in _ (by omega);have HI:Hid (inB x n=(decide (0≤x) && decide (x<2*n - 1))):=by unfold inB;rw[ht];rfl
  rw[ht] at HT;rw[HI.out];clear ht h1;by_cases h4:0≤x
  ·have d1:(decide (0≤x) && decide (x<2*n - 1))=decide (x<2*n - 1):=by simp[h4]
   rw[d1];go_enter Tryz.func95,Tryz.ntmps95;go_wp2_with fail;refine HT.out.mono ?_;rintro _ _ ⟨rfl,rfl⟩;go_wp2_with fail;go_ret;exact ⟨rfl,rfl⟩
  ·have d1:(decide (0≤x) && decide (x<2*n - 1))=false:=by simp;intro h;omega
   rw[d1];go_enter Tryz.func95,Tryz.ntmps95;go_wp2_with fail;refine HT.out.mono ?_;rintro _ _ ⟨rfl,rfl⟩;go_wp2_with fail;go_ret;exact ⟨rfl,rfl⟩
 ·have ht2:isTB n=false:=by rw[Bool.eq_false_iff];exact ht
  have HI:Hid (inB x n=false):=by unfold Hid inB;rw[ht2];rfl
  rw[ht2] at HT;rw[HI.out];clear ht ht2;go_enter Tryz.func95,Tryz.ntmps95;go_wp2_with fail;refine HT.out.mono ?_;rintro _ _ ⟨rfl,rfl⟩;go_wp2_with fail;go_ret;exact ⟨rfl,rfl⟩
theorem ajn (n:Int)(w:World):Calls Tryz.prog 75 #[.int .i64 n] w fun e w'=>e=.returned (.tuple #[.int .i64 (widV n),.int .i64 (widE n)])∧w=w':=by
 have HT:=Lib.hid (agn n w);by_cases ht:isTB n=true
 ·have h1:=acv ht
  have h2:IntKind.i64.wrap (2*n)=2*n:=IntWalk.i64_in _ (by omega);have h3:IntKind.i64.wrap (2*n - 1)=2*n - 1:=IntWalk.i64_in _ (by omega);rw[show widV n=2*n - 1 from if_pos ht,show widE n=0 from if_pos ht];rw[ht] at HT;clear ht h1;go_enter Tryz.func75,Tryz.ntmps75;go_wp2_with fail;refine HT.out.mono ?_;rintro _ _ ⟨rfl,rfl⟩;go_wp2_with fail;go_ret2;exact ⟨rfl,rfl⟩
 ·have ht2:isTB n=false:=by rw[Bool.eq_false_iff];exact ht
  rw[show widV n=0 from if_neg ht,show widE n=1 from if_neg ht];rw[ht2] at HT;clear ht ht2;go_enter Tryz.func75,Tryz.ntmps75;go_wp2_with fail;refine HT.out.mono ?_;rintro _ _ ⟨rfl,rfl⟩;go_wp2_with fail;go_ret2;exact ⟨rfl,rfl⟩
theorem anh (j q:Nat):((nd (j+1) q:Nat):Int).tmod 2=1:=by
 have:=afE j q;rw[Int.tmod_eq_emod_of_nonneg (by omega)];omega
theorem alV (q:Nat):((nd 0 q:Nat):Int).tmod 2=0:=by
 have:=agk q;rw[Int.tmod_eq_emod_of_nonneg (by omega)];omega
theorem aoP (j q:Nat):((nd (j+1) q:Nat):Int).tdiv 2=((nd j q:Nat):Int):=by
 have:=am4 j q;rw[Int.tdiv_eq_ediv_of_nonneg (by omega)];omega
theorem aku (j q:Nat)(w:World)(hj:j≤10)(hq:q<2 ^ (10 - j)):Calls Tryz.prog 82 #[.int .i64 ((nd j q:Nat):Int)] w fun e w'=>e=.returned (.int .i64 (j:Int))∧w=w':=by
 obtain ⟨b0,b1⟩:=(aaG ((nd j q:Nat):Int)).2 ⟨j,q,rfl,hj,hq⟩;have HS:Hid (∀ i,i≤j→0≤((nd i q:Nat):Int)∧((nd i q:Nat):Int)≤2046):=fun i hi=>(aaG ((nd i q:Nat):Int)).2 ⟨i,q,rfl,by omega,Nat.lt_of_lt_of_le hq (Nat.pow_le_pow_right (by omega) (by omega))⟩
 have HO:=Lib.hid (fun i=>anh i q);have HE:=Lib.hid (alV q);have HD:=Lib.hid (fun i=>aoP i q);obtain ⟨f,hf⟩:∃ f:Nat→Int,f=fun i=>((nd i q:Nat):Int):=⟨_,rfl⟩
 have hfi:∀ i,((nd i q:Nat):Int)=f i:=fun i=>by rw[hf]
 simp only[hfi] at *;clear hf hfi;go_enter Tryz.func82,Tryz.ntmps82;go_wp2_with fail;go_loop [3,4] (fun k y=>∃ i:Nat,i≤j∧k=.int .i64 ((j - i:Nat):Int)∧y=.int .i64 (f i)) (fun k _=>(j - (intOf k).toNat))
 case atStart=>exact ⟨j,Nat.le_refl _,by simp,rfl⟩
 case round=>
  obtain ⟨i,hi,rfl,rfl⟩:=hrel;cases i with
  | zero=>
   have e1:=HE.out;clear HS HO HE HD;rw[Nat.sub_zero];go_wp2;go_ret;exact ⟨rfl,rfl⟩
  | succ i=>
   have e1:=HO.out i;have e2:=HD.out i;have e3:=HS.out i (by omega);have e6:IntKind.i64.wrap (f i)=f i:=IntWalk.i64_in _ (by omega);obtain ⟨k,hk⟩:∃ k:Int,((j - (i+1):Nat):Int)=k:=⟨_,rfl⟩;have hk1:k+1=((j - i:Nat):Int):=by omega
   have hk2:0≤k∧k≤10:=by omega
   have e5:IntKind.i64.wrap (k+1)=k+1:=IntWalk.i64_in _ (by omega);have HK1:=Lib.hid hk1;rw[hk];clear HS HO HE HD e3 hk hk1;go_wp2;go_round
   case rel=>exact ⟨i,by omega,by rw[← HK1.out],rfl⟩
   case measure=>have:=HK1.out;simp[intOf];omega
theorem akv (x:Int)(w:World)(h:¬okN x):Calls Tryz.prog 82 #[.int .i64 x] w fun e w'=>e=.returned (.int .i64 0)∧w=w':=by
 unfold okN at h;by_cases h0:0≤x
 ·have h1:¬x≤2046:=fun h1=>h ⟨h0,h1⟩
  clear h;go_enter Tryz.func82,Tryz.ntmps82;go_wp2_with fail;go_loop [3,4] (fun k y=>k=.int .i64 0∧y=.int .i64 x) (fun _ _=>0)
  case atStart=>exact ⟨rfl,rfl⟩
  case round=>
   obtain ⟨rfl,rfl⟩:=hrel;go_wp2;go_ret;exact ⟨rfl,rfl⟩
 ·clear h
  go_enter Tryz.func82,Tryz.ntmps82;go_wp2_with fail;go_loop [3,4] (fun k y=>k=.int .i64 0∧y=.int .i64 x) (fun _ _=>0)
  case atStart=>exact ⟨rfl,rfl⟩
  case round=>
   obtain ⟨rfl,rfl⟩:=hrel;go_wp2;go_ret;exact ⟨rfl,rfl⟩
theorem adS (x:Int)(w:World):Calls Tryz.prog 82 #[.int .i64 x] w fun e w'=>e=.returned (.int .i64 (levV x))∧w=w':=by
 by_cases h:okN x
 ·obtain ⟨j,q,rfl,hj,hq⟩:=(aaG x).1 h
  rw[abB hj hq];exact aku j q w hj hq
 ·rw[agm h]
  exact akv x w h
theorem afG (k:Nat)(w:World)(hk:k≤20):Calls Tryz.prog 83 #[.int .i64 (k:Int)] w fun e w'=>e=.returned (.int .i64 ((2 ^ k:Nat):Int))∧w=w':=by
 have HP:Hid (∀ i,i<k→0≤((2 ^ i:Nat):Int)∧((2 ^ i:Nat):Int)≤1048576∧2*((2 ^ i:Nat):Int)=((2 ^ (i+1):Nat):Int)):=fun i hi=>by
  have h1:(2:Nat) ^ i≤2 ^ 20:=Nat.pow_le_pow_right (by omega) (by omega);have h2:=aal i;generalize 2 ^ (i+1)=N at *;generalize 2 ^ i=M at *;omega
 obtain ⟨f,hf⟩:∃ f:Nat→Int,f=fun i=>((2 ^ i:Nat):Int):=⟨_,rfl⟩
 have hfi:∀ i,((2 ^ i:Nat):Int)=f i:=fun i=>by rw[hf]
 have hf0:f 0=1:=by rw[hf];rfl
 simp only[hfi] at *;clear hf hfi;have HF0:=Lib.hid hf0;clear hf0;go_enter Tryz.func83,Tryz.ntmps83;go_wp2_with fail;go_loop [3,4] (fun n y=>∃ i:Nat,i≤k∧n=.int .i64 (f i)∧y=.int .i64 (i:Int)) (fun _ y=>(k - (intOf y).toNat))
 case atStart=>exact ⟨0,Nat.zero_le _,by rw[HF0.out],rfl⟩
 case round=>
  obtain ⟨i,hi,rfl,rfl⟩:=hrel;by_cases hlt:i<k
  ·obtain ⟨h1,h2,h3⟩:=HP.out i hlt
   have HN:=Lib.hid h3;have hw:IntKind.i64.wrap (2*f i)=2*f i:=IntWalk.i64_in _ (by omega);clear HP h3 HF0;go_wp2;go_round
   case rel=>exact ⟨i+1,by omega,by rw[← HN.out],by go_num⟩
   case measure=>simp[intOf];omega
  ·obtain rfl:i=k:=by omega
   go_wp2;go_ret;exact ⟨rfl,rfl⟩
def Tab (w:World):Prop:=∀ i,i<64→w.cell? ⟨1,i,none⟩=some (.int .u8 ((Lib.deBruijn64tab.getD i 0:Nat):Int))
theorem Tab.kp {w w':World}(h:Tab w)(k:Kp w w'):Tab w':=fun i hi=>k.cell (h i hi)
theorem Tab.lt {w:World}(h:Tab w):1<w.heap.size:=World.block_lt_of_cell? w _ (h 0 (by omega))
theorem Tab.held {R:Nat→Prop}{A B:World}(h:Tab A)(k:Held R A B)(hr:R 1):Tab B:=fun i hi=>k.cell (h i hi) hr
theorem aqj (x a:Nat)(hx:x<18446744073709551616)(hx0:x≠0)(hlow:x &&& (18446744073709551616 - x)=a):
  IntKind.u64.wrap (bits BinOp.and IntKind.u64 (x:Int) (IntKind.u64.wrap (-(x:Int)))*285870213051353865) / 288230376151711744=((a*285870213051353865 % 18446744073709551616 / 288230376151711744:Nat):Int):=by
 have e1:IntKind.u64.wrap (-(x:Int))=((18446744073709551616 - x:Nat):Int):=by rw[IntKind.wrap_u64];omega
 rw[e1,bits_and_u64_nat x _ hx (by omega),hlow,IntKind.wrap_u64];omega
theorem alW (x k idx:Nat)(w:World)(hx0:((x:Int)==0)=false)
  (key:IntKind.u64.wrap (bits BinOp.and IntKind.u64 (x:Int) (IntKind.u64.wrap (-(x:Int)))*285870213051353865) / 288230376151711744=(idx:Int))
  (hi:idx<64) (hk:k<64) (hcell:w.cell? ⟨1,idx,none⟩=some (.int .u8 k)):
  Calls Tryz.prog 232 #[.int .u64 x] w fun e w'=>e=.returned (.int .i64 k)∧w=w':=by
 go_enter Tryz.func232,Tryz.ntmps232;go_wp2_with (simp only[key])
 go_ret;exact ⟨rfl,rfl⟩
theorem aoR (x:Nat)(w:World)(hx:x<18446744073709551616)(hx0:x≠0)(hT:Tab w):
  Calls Tryz.prog 232 #[.int .u64 x] w fun e w'=>e=.returned (.int .i64 (Lib.ctz 64 x))∧w=w':=by
 obtain ⟨hlow,hk⟩:=Lib.lowest_bit 64 x hx0 hx;obtain ⟨hi,htab⟩:=Lib.deBruijn64_at _ hk;have hcell:=hT _ hi;rw[htab] at hcell;exact alW x _ _ w (by simp;omega) (aqj x _ hx hx0 hlow) hi hk hcell
theorem arl (x:Nat)(w:World)(hx:x<18446744073709551616)(hx0:x≠0)(hT:Tab w):
  Calls Tryz.prog 193 #[.int .u64 x] w fun e w'=>e=.returned (.int .i64 (Lib.ctz 64 x))∧w=w':=by
 have H:=Lib.hid (aoR x w hx hx0 hT);clear hx hx0 hT;go_enter Tryz.func193,Tryz.ntmps193;go_wp2_with fail;refine H.out.mono ?_;rintro _ _ ⟨rfl,rfl⟩;go_wp2_with fail;go_ret;exact ⟨rfl,rfl⟩
theorem ahS (n:Int)(w:World):Calls Tryz.prog 161 #[.int .i64 n] w fun e w'=>e=.returned (.bool (isTB n))∧w=w':=by
 by_cases h:1≤n∧n≤1024
 ·obtain ⟨N,rfl⟩:=Int.eq_ofNat_of_zero_le (by omega:0≤n)
  rw[ang N (by omega) (by omega)];have h1:(1:Int)≤(N:Int):=h.1;have h2:(N:Int)≤1024:=h.2;have e1:IntKind.i64.wrap ((N:Int) - 1)=((N - 1:Nat):Int):=by rw[IntWalk.i64_in _ (by omega)];omega
  have e2:bits .and .i64 (N:Int) ((N - 1:Nat):Int)=((N &&& (N - 1):Nat):Int):=ac4 N (N - 1) (by omega) (by omega);have e3:(((N &&& (N - 1):Nat):Int)==0)=decide (N &&& (N - 1)=0):=by
   by_cases h0:N &&& (N - 1)=0
   ·rw[h0];rfl
   ·rw[decide_eq_false h0,beq_eq_false_iff_ne];omega
  generalize decide (N &&& (N - 1)=0)=b at *;generalize N &&& (N - 1)=M at *;generalize ((N - 1:Nat):Int)=N1 at *;clear h;go_enter Tryz.func161,Tryz.ntmps161;go_wp2_with fail;go_ret;exact ⟨rfl,rfl⟩
 ·rw[aoO n h]
  by_cases h1:1≤n
  ·have h2:¬n≤1024:=fun e=>h ⟨h1,e⟩
   clear h;go_enter Tryz.func161,Tryz.ntmps161;go_wp2_with fail;go_ret;exact ⟨rfl,rfl⟩
  ·clear h
   go_enter Tryz.func161,Tryz.ntmps161;go_wp2_with fail;go_ret;exact ⟨rfl,rfl⟩
theorem aei (x n:Int)(w:World):Calls Tryz.prog 124 #[.int .i64 x,.int .i64 n] w fun e w'=>e=.returned (.bool (inB x n))∧w=w':=by
 have HT:=Lib.hid (ahS n w);by_cases ht:isTB n=true
 ·have h1:=acv ht
  have h2:IntKind.i64.wrap (2*n)=2*n:=IntWalk.i64_in _ (by omega);have h3:IntKind.i64.wrap (2*n - 2)=2*n - 2:=IntWalk.i64_in _ (by omega);have HI:inB x n=(decide (0≤x) && decide (x<2*n - 1)):=by unfold inB;rw[ht];rfl
  have HJ:decide (x<2*n - 1)=decide (x≤2*n - 2):=by congr 1;exact propext ⟨fun h=>by omega,fun h=>by omega⟩
  rw[ht] at HT;rw[HI,HJ];clear ht h1 HI HJ;by_cases h4:0≤x
  ·have d1:(decide (0≤x) && decide (x≤2*n - 2))=decide (x≤2*n - 2):=by simp[h4]
   rw[d1];clear d1;go_enter Tryz.func124,Tryz.ntmps124;go_wp2_with fail;refine HT.out.mono ?_;rintro _ _ ⟨rfl,rfl⟩;go_wp2_with fail;go_ret;exact ⟨rfl,rfl⟩
  ·have d1:(decide (0≤x) && decide (x≤2*n - 2))=false:=by simp;intro h;omega
   rw[d1];clear d1;go_enter Tryz.func124,Tryz.ntmps124;go_wp2_with fail;refine HT.out.mono ?_;rintro _ _ ⟨rfl,rfl⟩;go_wp2_with fail;go_ret;exact ⟨rfl,rfl⟩
 ·have ht2:isTB n=false:=by rw[Bool.eq_false_iff];exact ht
  have HI:inB x n=false:=by unfold inB;rw[ht2];rfl
  rw[ht2] at HT;rw[HI];clear ht ht2 HI;go_enter Tryz.func124,Tryz.ntmps124;go_wp2_with fail;refine HT.out.mono ?_;rintro _ _ ⟨rfl,rfl⟩;go_wp2_with fail;go_ret;exact ⟨rfl,rfl⟩
theorem alq (x:Int):inB x 1024=decide (okN x):=by
 have h:isTB 1024=true:=aeO 10 (by omega);unfold inB okN;rw[h,Bool.true_and];by_cases h1:0≤x
 ·by_cases h2:x≤2046
  ·rw[decide_eq_true h1,decide_eq_true (show x<2*1024 - 1 by omega),decide_eq_true (show 0≤x∧x≤2046 from ⟨h1,h2⟩)];rfl
  ·rw[decide_eq_true h1,decide_eq_false (show ¬x<2*1024 - 1 by omega),decide_eq_false (show ¬(0≤x∧x≤2046) from fun h=>h2 h.2)];rfl
 ·rw[decide_eq_false h1,decide_eq_false (show ¬(0≤x∧x≤2046) from fun h=>h1 h.1)];rfl
theorem abe (x:Int)(w:World)(hT:Tab w):Calls Tryz.prog 158 #[.int .i64 x] w fun e w'=>e=.returned (.int .i64 (levV x))∧w=w':=by
 have HN:=Lib.hid (aei x 1024 w);rw[alq] at HN;by_cases h:okN x
 ·obtain ⟨j,q,rfl,hj,hq⟩:=(aaG x).1 h
  have hb:0≤((nd j q:Nat):Int)∧((nd j q:Nat):Int)≤2046:=h;rw[decide_eq_true h] at HN;have HZ:=Lib.hid (arl (nd j q+1) w (by omega) (by omega) hT);rw[ark j q hj] at HZ;rw[abB hj hq];have e1:IntKind.u64.wrap ((nd j q:Nat):Int)=((nd j q:Nat):Int):=by rw[IntKind.wrap_u64];omega
  have e2:IntKind.u64.wrap (((nd j q:Nat):Int)+1)=((nd j q+1:Nat):Int):=by rw[IntKind.wrap_u64];omega
  generalize ((nd j q+1:Nat):Int)=Y at *;generalize ((nd j q:Nat):Int)=X at *;clear h hb hq hT;go_enter Tryz.func158,Tryz.ntmps158;go_wp2_with fail;refine HN.out.mono ?_;rintro _ _ ⟨rfl,rfl⟩;go_wp2_with fail;refine HZ.out.mono ?_;rintro _ _ ⟨rfl,rfl⟩;go_wp2_with fail;go_ret;exact ⟨rfl,rfl⟩
 ·rw[decide_eq_false h] at HN
  rw[agm h];clear h hT;go_enter Tryz.func158,Tryz.ntmps158;go_wp2_with fail;refine HN.out.mono ?_;rintro _ _ ⟨rfl,rfl⟩;go_wp2_with fail;go_ret;exact ⟨rfl,rfl⟩
theorem arm : Tryz.prog.globalNamed "math/bits.deBruijn64tab" = some 1 := by kernel_rfl
theorem ani:(Tryz.prog.globals[1]?).map (·.type)=some 279:=by kernel_rfl
theorem anj:Tryz.prog.cellsOf 279=64:=by kernel_rfl
theorem alX:Tryz.prog.cellsOf 5=1:=by kernel_rfl
theorem aoS {W : World}(h : laidMetH Tryz.prog [("math/bits.deBruijn32tab", Rows.laid_math_bits_deBruijn32tab), ("math/bits.deBruijn64tab", Rows.laid_math_bits_deBruijn64tab)] W) : Tab W := by
 have h1 : laidMet Tryz.prog [("math/bits.deBruijn32tab", Rows.laid_math_bits_deBruijn32tab), ("math/bits.deBruijn64tab", Rows.laid_math_bits_deBruijn64tab)] W := h;have h2 := laidMet.tail h1;have t : Lib.TabIs Tryz.prog W "math/bits.deBruijn64tab" .u8 (Lib.deBruijn64tab.map fun (n : Nat) => (n : Int)) :=
  Lib.tabIs_of_head (rest:=[]) arm ani Tryz.underlying279 Tryz.underlying5 alX anj h2
 intro i hi;have h3:=t.cell arm i (by simpa using (show i<Lib.deBruijn64tab.length from hi));rw[h3];have hi2:i<Lib.deBruijn64tab.length:=hi;simp[List.getD_eq_getElem?_getD,hi2]
def ap3 (l:List Nat):Obj→Obj
 | .cells _ t frozen=>.cells (l.map fun (n:Nat)=>(.int .u8 (n:Int):Value)).toArray t frozen
 | o=>o
noncomputable def ago (os:Os):World:=
 { World.holding Tryz.prog os ⟨#[],#[],[]⟩ with heap:=((World.holding Tryz.prog os ⟨#[],#[],[]⟩).heap.modify 0 (ap3 Lib.deBruijn32tab)).modify 1 (ap3 Lib.deBruijn64tab) }
theorem adt (x:Int)(w:World):Calls Tryz.prog 34 #[.int .i64 x] w fun e w'=>e=.returned (.tuple #[.int .i64 (lefV x),.int .i64 (chE x)])∧w=w':=by
 have HLV:=Lib.hid (adS x w);by_cases h:levV x=0
 ·rw[show lefV x=0 from if_pos h,show chE x=1 from if_pos h]
  rw[h] at HLV;clear h;go_enter Tryz.func34,Tryz.ntmps34;go_wp2_with fail;refine HLV.out.mono ?_;rintro _ _ ⟨rfl,rfl⟩;go_wp2_with fail;go_ret2;exact ⟨rfl,rfl⟩
 ·have hok:okN x:=by
   by_cases h2:okN x
   ·exact h2
   ·exact absurd (agm h2) h
  obtain ⟨j,q,rfl,hj,hq⟩:=(aaG x).1 hok;have hb:=(aaG ((nd j q:Nat):Int)).2 ⟨j,q,rfl,hj,hq⟩;rw[abB hj hq] at h HLV;cases j with
  | zero=>exact absurd rfl h
  | succ j=>
   obtain ⟨e1,e2,e3⟩:=adG (j:=j) hj hq;rw[e1,e2];have HH:=Lib.hid (afG j w (by omega));have hp:(2:Nat) ^ j≤2 ^ 10:=Nat.pow_le_pow_right (by omega) (by omega);have hl:=aff j q;have hr:=aeh j q;have i1:IntKind.i64.wrap (((j+1:Nat):Int) - 1)=(j:Int):=by rw[IntWalk.i64_in _ (by omega)];omega
   obtain ⟨M,hM⟩:∃ M,2 ^ j=M:=⟨_,rfl⟩;rw[hM] at HH hp hl hr;have i2:IntKind.i64.wrap (((nd (j+1) q:Nat):Int) - (M:Int))=((nd j (2*q):Nat):Int):=by rw[IntWalk.i64_in _ (by omega)];omega
   have i3:(((j+1:Nat):Int)==0)=false:=beq_eq_false_iff_ne.2 (by omega);have i4:¬((j+1:Nat):Int)=0:=by omega
   generalize ((nd (j+1) q:Nat):Int)=X at *;generalize ((nd j (2*q):Nat):Int)=Y at *;generalize ((j+1:Nat):Int)=J at *;clear h hok hb e1 e2 e3 hp hl hr hM hj hq;go_enter Tryz.func34,Tryz.ntmps34;go_wp2_with fail;refine HLV.out.mono ?_;rintro _ _ ⟨rfl,rfl⟩;go_wp2_with fail;refine HH.out.mono ?_;rintro _ _ ⟨rfl,rfl⟩;go_wp2_with fail;go_ret2;exact ⟨rfl,rfl⟩
theorem acU (x:Int)(w:World):Calls Tryz.prog 35 #[.int .i64 x] w fun e w'=>e=.returned (.tuple #[.int .i64 (rigV x),.int .i64 (chE x)])∧w=w':=by
 have HLV:=Lib.hid (adS x w);by_cases h:levV x=0
 ·rw[show rigV x=0 from if_pos h,show chE x=1 from if_pos h]
  rw[h] at HLV;clear h;go_enter Tryz.func35,Tryz.ntmps35;go_wp2_with fail;refine HLV.out.mono ?_;rintro _ _ ⟨rfl,rfl⟩;go_wp2_with fail;go_ret2;exact ⟨rfl,rfl⟩
 ·have hok:okN x:=by
   by_cases h2:okN x
   ·exact h2
   ·exact absurd (agm h2) h
  obtain ⟨j,q,rfl,hj,hq⟩:=(aaG x).1 hok;have hb:=(aaG ((nd j q:Nat):Int)).2 ⟨j,q,rfl,hj,hq⟩;rw[abB hj hq] at h HLV;cases j with
  | zero=>exact absurd rfl h
  | succ j=>
   obtain ⟨e1,e2,e3⟩:=adG (j:=j) hj hq;rw[e1,e3];have HH:=Lib.hid (afG j w (by omega));have hp:(2:Nat) ^ j≤2 ^ 10:=Nat.pow_le_pow_right (by omega) (by omega);have hl:=aff j q;have hr:=aeh j q;have i1:IntKind.i64.wrap (((j+1:Nat):Int) - 1)=(j:Int):=by rw[IntWalk.i64_in _ (by omega)];omega
   obtain ⟨M,hM⟩:∃ M,2 ^ j=M:=⟨_,rfl⟩;rw[hM] at HH hp hl hr;have i2:IntKind.i64.wrap (((nd (j+1) q:Nat):Int)+(M:Int))=((nd j (2*q+1):Nat):Int):=by rw[IntWalk.i64_in _ (by omega)];omega
   have i3:(((j+1:Nat):Int)==0)=false:=beq_eq_false_iff_ne.2 (by omega);have i4:¬((j+1:Nat):Int)=0:=by omega
   generalize ((nd (j+1) q:Nat):Int)=X at *;generalize ((nd j (2*q+1):Nat):Int)=Y at *;generalize ((j+1:Nat):Int)=J at *;clear h hok hb e1 e2 e3 hp hl hr hM hj hq;go_enter Tryz.func35,Tryz.ntmps35;go_wp2_with fail;refine HLV.out.mono ?_;rintro _ _ ⟨rfl,rfl⟩;go_wp2_with fail;refine HH.out.mono ?_;rintro _ _ ⟨rfl,rfl⟩;go_wp2_with fail;go_ret2;exact ⟨rfl,rfl⟩
theorem apo (p:Int):chE p=1∨chE p=0:=by unfold chE;split <;> simp
theorem an6 {j q:Nat}(p:Nat)(hp:p≤2046)(hj:j≤10):
  (chE (p:Int)=0∧(lefV (p:Int)=((nd j q:Nat):Int)∨rigV (p:Int)=((nd j q:Nat):Int)))↔p=nd (j+1) (q / 2):=by
 obtain ⟨i,r,e,hi,hr⟩:=ahm 10 p (by omega)
 subst e
 cases i with
 | zero=>
  obtain ⟨e1,e2,e3⟩:=aqf (q:=r) (by simpa using hr)
  rw[e1]
  constructor
  ·rintro ⟨h,_⟩;omega
  ·intro h;exact absurd (aeN h).1 (by omega)
 | succ i=>
  obtain ⟨e1,e2,e3⟩:=adG (j:=i) hi hr
  rw[e1,e2,e3]
  constructor
  ·rintro ⟨_,h | h⟩
   ·obtain ⟨rfl,rfl⟩:=aeN (Int.ofNat.inj h)
    congr 1;omega
   ·obtain ⟨rfl,rfl⟩:=aeN (Int.ofNat.inj h)
    congr 1;omega
  ·intro h
   obtain ⟨h1,h2⟩:=aeN h
   obtain rfl:i=j:=by omega
   refine ⟨rfl,?_⟩
   by_cases h3:q % 2=0
   ·left;congr 2;omega
   ·right;congr 2;omega
theorem aiE (X n:Int)(W T:Nat)(w:World)(hn:IntKind.i64.wrap (2*n)=2*n)(hW:2*n - 1=(W:Int))(hWb:W≤2047)(hin:inB X n=true)(hn2:-9223372036854775808≤n∧n≤9223372036854775807)
  (hm:∀ p:Nat,p≤2046→((chE (p:Int)=0∧(lefV (p:Int)=X∨rigV (p:Int)=X))↔p=T)):
  Calls Tryz.prog 80 #[.int .i64 X,.int .i64 n] w fun e w'=>e=.returned (if T<W then .tuple #[.int .i64 (T:Int),.int .i64 0] else .tuple #[.int .i64 0,.int .i64 11])∧w=w':=by
 have HN:=Lib.hid (acw X n w hn2);rw[hin] at HN;have HM:=Lib.hid hm;have HL:=Lib.hid (fun (p:Nat)=>adt (p:Int) w);have HR:=Lib.hid (fun (p:Nat)=>acU (p:Int) w);have i1:IntKind.i64.wrap (2*n - 1)=(W:Int):=by rw[hW];exact IntWalk.i64_in _ (by omega)
 have i0:IntKind.i64.wrap (W:Int)=(W:Int):=IntWalk.i64_in _ (by omega);obtain ⟨V,hV⟩:∃ V,(if T<W then (.tuple #[.int .i64 (T:Int),.int .i64 0]:Value) else .tuple #[.int .i64 0,.int .i64 11])=V:=⟨_,rfl⟩;rw[hV];have HV:=Lib.hid hV;have HT:=Lib.hid (Nat.lt_or_ge T W);clear hm hin hn2 hV;go_enter Tryz.func80,Tryz.ntmps80;go_wp2_with fail;refine HN.out.mono ?_;rintro _ _ ⟨rfl,rfl⟩;clear HN;go_wp2_with fail;go_loop [7] (fun y=>∃ p:Nat,p≤W∧p≤T∧y=.int .i64 (p:Int)) (fun y=>(W - (intOf y).toNat))
 case atStart=>exact ⟨0,Nat.zero_le _,Nat.zero_le _,rfl⟩
 case round=>
  obtain ⟨p,hp,hpT,rfl⟩:=hrel;by_cases hlt:p<W
  ·have hltI:(p:Int)<(W:Int):=by omega
   have hmp:=HM.out p (by omega);have HLp:=Lib.hid (HL.out p);have HRp:=Lib.hid (HR.out p);have i2:IntKind.i64.wrap ((p:Int)+1)=(p:Int)+1:=IntWalk.i64_in _ (by omega);have hE:=apo (p:Int);clear HM HL HR hW;generalize chE (p:Int)=E at *;generalize lefV (p:Int)=L at *;generalize rigV (p:Int)=R at *;by_cases he:p=T
   ·obtain ⟨h1,h2⟩:=hmp.2 he
    have HV2:Hid (V=.tuple #[.int .i64 (p:Int),.int .i64 0]):=by have:=HV.out;rw[if_pos (by omega)] at this;rw[he];exact this.symm
    subst h1;clear hmp hE HV HT he hpT;by_cases h3:L=X
    ·subst h3
     clear h2;go_wp2_with fail;refine HLp.out.mono ?_;rintro _ _ ⟨rfl,rfl⟩;go_wp2_with fail;refine HRp.out.mono ?_;rintro _ _ ⟨rfl,rfl⟩;go_wp2;go_ret2;exact ⟨by rw[HV2.out] <;> rfl,rfl⟩
    ·have h4:R=X:=h2.resolve_left h3
     subst h4;have b1:(L==R)=false:=beq_eq_false_iff_ne.2 h3;clear h2;go_wp2_with fail;refine HLp.out.mono ?_;rintro _ _ ⟨rfl,rfl⟩;go_wp2_with fail;refine HRp.out.mono ?_;rintro _ _ ⟨rfl,rfl⟩;go_wp2;go_ret2;exact ⟨by rw[HV2.out] <;> rfl,rfl⟩
   ·have hno:¬(E=0∧(L=X∨R=X)):=fun h=>he (hmp.1 h)
    have hpT2:p+1≤T:=by omega
    clear hmp HV HT he hpT;rcases hE with h1 | h1
    ·subst h1
     clear hno;go_wp2_with fail;refine HLp.out.mono ?_;rintro _ _ ⟨rfl,rfl⟩;go_wp2_with fail;refine HRp.out.mono ?_;rintro _ _ ⟨rfl,rfl⟩;go_wp2;go_round
     case rel=>exact ⟨p+1,by omega,hpT2,by go_num⟩
     case measure=>simp[intOf];omega
    ·subst h1
     have h3:¬L=X:=fun h=>hno ⟨rfl,.inl h⟩
     have h4:¬R=X:=fun h=>hno ⟨rfl,.inr h⟩
     have b1:(L==X)=false:=beq_eq_false_iff_ne.2 h3;have b2:(R==X)=false:=beq_eq_false_iff_ne.2 h4;clear hno;go_wp2_with fail;refine HLp.out.mono ?_;rintro _ _ ⟨rfl,rfl⟩;go_wp2_with fail;refine HRp.out.mono ?_;rintro _ _ ⟨rfl,rfl⟩;go_wp2;go_round
     case rel=>exact ⟨p+1,by omega,hpT2,by go_num⟩
     case measure=>simp[intOf];omega
  ·obtain rfl:p=W:=by omega
   have HV2:Hid (V=.tuple #[.int .i64 0,.int .i64 11]):=by have:=HV.out;rw[if_neg (by omega)] at this;exact this.symm
   clear HM HL HR HV HT hW hpT;go_wp2;go_ret2;exact ⟨by rw[HV2.out] <;> rfl,rfl⟩
theorem adu (x n:Int)(w:World)(hn2:-9223372036854775808≤n∧n≤9223372036854775807):Calls Tryz.prog 80 #[.int .i64 x,.int .i64 n] w fun e w'=>e=.returned (.tuple #[.int .i64 (paV x n),.int .i64 (paE x n)])∧w=w':=by
 by_cases h:inB x n=true
 ·obtain ⟨K,j,q,hK,rfl,rfl,hj,hq⟩:=(acY x n).1 h
  obtain ⟨_,hj10,hq10⟩:=aa1 hK hj hq;have h1:=abH hK;have h2:=aaz K;have h3:=aal K;obtain ⟨W,hW⟩:∃ W,2 ^ (K+1) - 1=W:=⟨_,rfl⟩;have:=aiE ((nd j q:Nat):Int) ((2 ^ K:Nat):Int) W (nd (j+1) (q / 2)) w (IntWalk.i64_in _ (by omega)) (by omega) (by omega) h hn2 (fun p hp=>an6 p hp hj10);refine this.mono ?_;rintro _ _ ⟨rfl,rfl⟩;by_cases hr:j=K
  ·subst hr
   have hq0:q=0:=by simp at hq;exact hq
   subst hq0;obtain ⟨e1,e2,_⟩:=ana hK;rw[e1,e2,if_neg]
   ·exact ⟨rfl,rfl⟩
   ·intro hlt
    rw[← hW] at hlt;have:=(nd_in hlt).1;omega
  ·obtain ⟨e1,e2,_⟩:=anb (K:=K) (j:=j) (q:=q) hK (by omega) hq
   rw[e1,e2,if_pos]
   ·exact ⟨rfl,rfl⟩
   ·rw[← hW]
    refine afg (by omega) ?_;have e:K - j=(K - (j+1))+1:=by omega
    rw[e,aal] at hq;omega
 ·obtain ⟨e1,e2,_⟩:=ari h
  have h2:inB x n=false:=by rw[Bool.eq_false_iff];exact h
  have HN:=Lib.hid (acw x n w hn2);rw[h2] at HN;rw[e1,e2];clear h h2 e1 e2 hn2;go_enter Tryz.func80,Tryz.ntmps80;go_wp2_with fail;refine HN.out.mono ?_;rintro _ _ ⟨rfl,rfl⟩;go_wp2_with fail;go_ret2;exact ⟨rfl,rfl⟩
theorem aen (n:Int)(w:World):Calls Tryz.prog 127 #[.int .i64 n] w fun e w'=>e=.returned (.tuple #[.int .i64 (widV n),.int .i64 (widE n)])∧w=w':=by
 have HT:=Lib.hid (ahS n w);by_cases ht:isTB n=true
 ·have h1:=acv ht
  have h2:IntKind.i64.wrap (2*n)=2*n:=IntWalk.i64_in _ (by omega);have h3:IntKind.i64.wrap (2*n - 1)=2*n - 1:=IntWalk.i64_in _ (by omega);rw[show widV n=2*n - 1 from if_pos ht,show widE n=0 from if_pos ht];rw[ht] at HT;clear ht h1;go_enter Tryz.func127,Tryz.ntmps127;go_wp2_with fail;refine HT.out.mono ?_;rintro _ _ ⟨rfl,rfl⟩;go_wp2_with fail;go_ret2;exact ⟨rfl,rfl⟩
 ·have ht2:isTB n=false:=by rw[Bool.eq_false_iff];exact ht
  rw[show widV n=0 from if_neg ht,show widE n=1 from if_neg ht];rw[ht2] at HT;clear ht ht2;go_enter Tryz.func127,Tryz.ntmps127;go_wp2_with fail;refine HT.out.mono ?_;rintro _ _ ⟨rfl,rfl⟩;go_wp2_with fail;go_ret2;exact ⟨rfl,rfl⟩
theorem aig {k:Nat}(h:k≤10):((2 ^ k:Nat):Int)≤1024∧1≤((2 ^ k:Nat):Int):=by have:=abH h;have:=aaz k;omega
theorem aom (k:Nat)(h:k≤10):IntKind.i64.wrap (1*2 ^ k)=((2 ^ k:Nat):Int):=by
 have h1:=aig h;have e:(1:Int)*2 ^ k=((2 ^ k:Nat):Int):=by push_cast;omega
 rw[e];exact IntWalk.i64_in _ (by omega)
theorem aon (k:Nat)(h:k≤10):IntKind.i64.wrap (2 ^ k)=((2 ^ k:Nat):Int):=by
 have:=aom k h;rwa [Int.one_mul] at this
theorem aqY (k:Nat)(h:k≤10):IntKind.i64.wrap (-1*2 ^ k) = -((2 ^ k:Nat):Int):=by
 have h1:=aig h;have e:(-1:Int)*2 ^ k = -((2 ^ k:Nat):Int):=by push_cast;omega
 rw[e];exact IntWalk.i64_in _ (by omega)
theorem ajY (j q:Nat)(s:Int)(w:World)(hj:j+1≤10)(hq:q<2 ^ (10 - (j+1)))(hs:s=1∨s = -1)(hT:Tab w):
  Calls Tryz.prog 165 #[.int .i64 ((nd (j+1) q:Nat):Int),.int .i64 s] w fun e w'=>e=.returned (.tuple #[.int .i64 (((nd (j+1) q:Nat):Int)+s*((2 ^ j:Nat):Int)),.int .i64 0])∧w=w':=by
 have HL:=Lib.hid (abe ((nd (j+1) q:Nat):Int) w hT);rw[abB hj hq] at HL;have hx:=(aaG ((nd (j+1) q:Nat):Int)).2 ⟨j+1,q,rfl,hj,hq⟩;obtain ⟨b1,b2⟩:=aig (k:=j) (by omega);have e1:IntKind.i64.wrap (((j+1:Nat):Int) - 1)=(j:Int):=by rw[IntWalk.i64_in _ (by omega)];omega
 have e0:¬((j+1:Nat):Int)=0:=by omega
 have e0':(((j+1:Nat):Int)==0)=false:=beq_eq_false_iff_ne.2 e0;have e3:IntKind.i64.wrap (s*2 ^ j)=s*((2 ^ j:Nat):Int):=by
  rcases hs with rfl | rfl
  ·rw[aom j (by omega)];omega
  ·rw[aqY j (by omega)];omega
 have e4:IntKind.i64.wrap (((nd (j+1) q:Nat):Int)+s*((2 ^ j:Nat):Int))=((nd (j+1) q:Nat):Int)+s*((2 ^ j:Nat):Int):=IntWalk.i64_in _ (by rcases hs with rfl | rfl <;> omega);have e5:((j:Int)).toNat=j:=Int.toNat_natCast j;have e6:(j:Int)≤64:=by omega
 generalize s*((2 ^ j:Nat):Int)=M at *;generalize ((j+1:Nat):Int)=J1 at *;generalize ((nd (j+1) q:Nat):Int)=X at *;clear hx hq hj hT b1 b2 hs;go_enter Tryz.func165,Tryz.ntmps165;go_wp2_with fail;refine HL.out.mono ?_;rintro _ _ ⟨rfl,rfl⟩;go_wp2_with fail;go_ret2;exact ⟨rfl,rfl⟩
theorem alJ (x s:Int)(w:World)(h:levV x=0)(hT:Tab w):
  Calls Tryz.prog 165 #[.int .i64 x,.int .i64 s] w fun e w'=>e=.returned (.tuple #[.int .i64 0,.int .i64 1])∧w=w':=by
 have HL:=Lib.hid (abe x w hT);rw[h] at HL;clear h hT;go_enter Tryz.func165,Tryz.ntmps165;go_wp2_with fail;refine HL.out.mono ?_;rintro _ _ ⟨rfl,rfl⟩;go_wp2_with fail;go_ret2;exact ⟨rfl,rfl⟩
theorem agV (x:Int):levV x=0∨∃ j q,x=((nd (j+1) q:Nat):Int)∧j+1≤10∧q<2 ^ (10 - (j+1)):=by
 by_cases h:okN x
 ·obtain ⟨j,q,rfl,hj,hq⟩:=(aaG x).1 h
  cases j with
  | zero=>exact .inl (abB hj hq)
  | succ j=>exact .inr ⟨j,q,rfl,hj,hq⟩
 ·exact .inl (agm h)
theorem ady (x:Int)(w:World)(hT:Tab w):Calls Tryz.prog 128 #[.int .i64 x] w fun e w'=>e=.returned (.tuple #[.int .i64 (lefV x),.int .i64 (chE x)])∧w=w':=by
 have H:Hid (Calls Tryz.prog 165 #[.int .i64 x,.int .i64 (-1)] w fun e w'=>e=.returned (.tuple #[.int .i64 (lefV x),.int .i64 (chE x)])∧w=w'):=by
  rcases agV x with h | ⟨j,q,rfl,hj,hq⟩
  ·have h1:lefV x=0:=if_pos h
   have h2:chE x=1:=if_pos h;rw[h1,h2];exact alJ x (-1) w h hT
  ·obtain ⟨h1,h2,_⟩:=adG hj hq
   obtain ⟨h3,h4⟩:=aff j q;have:=ajY j q (-1) w hj hq (.inr rfl) hT;rw[h1,h2];rwa [show ((nd (j+1) q:Nat):Int)+-1*((2 ^ j:Nat):Int)=((nd j (2*q):Nat):Int) by omega] at this
 clear hT;go_enter Tryz.func128,Tryz.ntmps128;go_wp2_with fail;refine H.out.mono ?_;rintro _ _ ⟨rfl,rfl⟩;go_wp2_with fail;go_ret2;exact ⟨rfl,rfl⟩
theorem aeo (x:Int)(w:World)(hT:Tab w):Calls Tryz.prog 129 #[.int .i64 x] w fun e w'=>e=.returned (.tuple #[.int .i64 (rigV x),.int .i64 (chE x)])∧w=w':=by
 have H:Hid (Calls Tryz.prog 165 #[.int .i64 x,.int .i64 1] w fun e w'=>e=.returned (.tuple #[.int .i64 (rigV x),.int .i64 (chE x)])∧w=w'):=by
  rcases agV x with h | ⟨j,q,rfl,hj,hq⟩
  ·have h1:rigV x=0:=if_pos h
   have h2:chE x=1:=if_pos h;rw[h1,h2];exact alJ x 1 w h hT
  ·obtain ⟨h1,_,h2⟩:=adG hj hq
   have h3:=aeh j q;have:=ajY j q 1 w hj hq (.inl rfl) hT;rw[h1,h2];rwa [show ((nd (j+1) q:Nat):Int)+1*((2 ^ j:Nat):Int)=((nd j (2*q+1):Nat):Int) by omega] at this
 clear hT;go_enter Tryz.func129,Tryz.ntmps129;go_wp2_with fail;refine H.out.mono ?_;rintro _ _ ⟨rfl,rfl⟩;go_wp2_with fail;go_ret2;exact ⟨rfl,rfl⟩
theorem amB (j q:Nat)(w:World)(hj:j<10)(hq:q<2 ^ (10 - j))(hT:Tab w):
  Calls Tryz.prog 164 #[.int .i64 ((nd j q:Nat):Int)] w fun e w'=>e=.returned (.int .i64 ((nd (j+1) (q / 2):Nat):Int))∧w=w':=by
 have HL:=Lib.hid (abe ((nd j q:Nat):Int) w hT);rw[abB (by omega) hq] at HL;have hx:=(aaG ((nd j q:Nat):Int)).2 ⟨j,q,rfl,by omega,hq⟩;obtain ⟨b1,b2⟩:=aig (k:=j) (by omega);have e1:=aon j (by omega);have e2:IntKind.i64.wrap (2*((2 ^ j:Nat):Int))=((2 ^ (j+1):Nat):Int):=by rw[aal,IntWalk.i64_in _ (by omega)];omega
 have e3:=ac4 (nd j q) (2 ^ (j+1)) (by omega) (by rw[aal];omega);rw[aoN] at e3;have e5:((j:Int)).toNat=j:=Int.toNat_natCast j;have e6:(j:Int)≤64:=by omega
 by_cases h:q % 2=0
 ·have h1:=ane j q h
  have e4:IntKind.i64.wrap (((nd j q:Nat):Int)+((2 ^ j:Nat):Int))=((nd (j+1) (q / 2):Nat):Int):=by rw[IntWalk.i64_in _ (by omega)];omega
  rw[if_pos h] at e3;generalize ((nd (j+1) (q / 2):Nat):Int)=Y at *;generalize ((2 ^ (j+1):Nat):Int)=B at *;generalize ((nd j q:Nat):Int)=X at *;generalize ((2 ^ j:Nat):Int)=A at *;clear hx hq hj hT b1 b2 h h1;go_enter Tryz.func164,Tryz.ntmps164;go_wp2_with fail;refine HL.out.mono ?_;rintro _ _ ⟨rfl,rfl⟩;go_wp2_with fail;go_ret;exact ⟨rfl,rfl⟩
 ·obtain ⟨h1,h2⟩:=alp j q h
  have e4:IntKind.i64.wrap (((nd j q:Nat):Int) - ((2 ^ j:Nat):Int))=((nd (j+1) (q / 2):Nat):Int):=by rw[IntWalk.i64_in _ (by omega)];omega
  rw[if_neg h] at e3;have e7:(((2 ^ (j+1):Nat):Int)==0)=false:=beq_eq_false_iff_ne.2 (by have:=aaz (j+1);omega);generalize ((nd (j+1) (q / 2):Nat):Int)=Y at *;generalize ((2 ^ (j+1):Nat):Int)=B at *;generalize ((nd j q:Nat):Int)=X at *;generalize ((2 ^ j:Nat):Int)=A at *;clear hx hq hj hT b1 b2 h h1 h2;go_enter Tryz.func164,Tryz.ntmps164;go_wp2_with fail;refine HL.out.mono ?_;rintro _ _ ⟨rfl,rfl⟩;go_wp2_with fail;go_ret;exact ⟨rfl,rfl⟩
theorem apD (n:Int)(w:World)(hn:-9223372036854775807≤n∧n≤9223372036854775807):Calls Tryz.prog 163 #[.int .i64 n] w fun e w'=>e=.returned (.int .i64 (n - 1))∧w=w':=by
 have e1:IntKind.i64.wrap (n - 1)=n - 1:=IntWalk.i64_in _ (by omega);go_enter Tryz.func163,Tryz.ntmps163;go_wp2_with fail;go_ret;exact ⟨rfl,rfl⟩
theorem arL {K j q:Nat}(hK:K≤10)(hq:q<2 ^ (K - j)):q<2 ^ (10 - j):=Nat.lt_of_lt_of_le hq (Nat.pow_le_pow_right (by omega) (by omega))
theorem ak2 (j q:Nat)(w:World)(hj:j<10)(hq:q<2 ^ (10 - j)):
  Calls Tryz.prog 126 #[.int .i64 ((nd j q:Nat):Int),.int .i64 ((nd (j+1) (q / 2):Nat):Int)] w fun e w'=>e=.returned (.int .i64 ((nd j (sq q):Nat):Int))∧w=w':=by
 have h1:=aqh j q;have hx:=(aaG ((nd j q:Nat):Int)).2 ⟨j,q,rfl,by omega,hq⟩;have hy:=(aaG ((nd (j+1) (q / 2):Nat):Int)).2 ⟨j+1,q / 2,rfl,by omega,by
  have:2 ^ (10 - j)=2*2 ^ (10 - (j+1)):=by rw[show 10 - j=(10 - (j+1))+1 by omega,aal]
  omega⟩
 have e1:IntKind.i64.wrap (2*((nd (j+1) (q / 2):Nat):Int))=2*((nd (j+1) (q / 2):Nat):Int):=IntWalk.i64_in _ (by omega);have e2:IntKind.i64.wrap (2*((nd (j+1) (q / 2):Nat):Int) - ((nd j q:Nat):Int))=((nd j (sq q):Nat):Int):=by rw[IntWalk.i64_in _ (by omega)];omega
 generalize ((nd (j+1) (q / 2):Nat):Int)=Y at *;generalize ((nd j q:Nat):Int)=X at *;generalize ((nd j (sq q):Nat):Int)=Z at *;clear h1 hx hy hq hj;go_enter Tryz.func126,Tryz.ntmps126;go_wp2_with fail;go_ret;exact ⟨rfl,rfl⟩
theorem agW (x:Int)(w:World)(hT:Tab w):Calls Tryz.prog 119 #[.int .i64 x] w fun e w'=>e=.returned (.tuple #[.int .i64 (loV x),.int .i64 (hiV x)])∧w=w':=by
 have HN:=Lib.hid (aei x 1024 w);rw[alq] at HN;by_cases h:okN x
 ·obtain ⟨j,q,rfl,hj,hq⟩:=(aaG x).1 h
  rw[decide_eq_true h] at HN;obtain ⟨c1,c2⟩:=anc hj hq;rw[c1,c2];have HL:=Lib.hid (abe ((nd j q:Nat):Int) w hT);rw[abB hj hq] at HL;have hx:0≤((nd j q:Nat):Int)∧((nd j q:Nat):Int)≤2046:=h;obtain ⟨b1,b2⟩:=aig hj;obtain ⟨d1,d2⟩:=am6 j q;have d3:2 ^ j - 1≤nd j q:=by unfold nd;omega
  have e1:=aon j hj;have e2:IntKind.i64.wrap (((2 ^ j:Nat):Int) - 1)=((2 ^ j:Nat):Int) - 1:=IntWalk.i64_in _ (by omega);have e3:IntKind.i64.wrap (((nd j q:Nat):Int) - (((2 ^ j:Nat):Int) - 1))=((nd j q - (2 ^ j - 1):Nat):Int):=by rw[IntWalk.i64_in _ (by omega)];omega
  have e4:IntKind.i64.wrap (((nd j q:Nat):Int)+(((2 ^ j:Nat):Int) - 1))=((nd j q+(2 ^ j - 1):Nat):Int):=by rw[IntWalk.i64_in _ (by omega)];omega
  have e7:((nd j q - (2 ^ j - 1):Nat):Int).tdiv 2=((2 ^ j*q:Nat):Int):=by rw[Int.tdiv_eq_ediv_of_nonneg (by omega)];omega
  have e8:((nd j q+(2 ^ j - 1):Nat):Int).tdiv 2=((2 ^ j*q+2 ^ j - 1:Nat):Int):=by rw[Int.tdiv_eq_ediv_of_nonneg (by omega)];omega
  have e9:IntKind.i64.wrap ((2 ^ j*q:Nat):Int)=((2 ^ j*q:Nat):Int):=IntWalk.i64_in _ (by omega);have e10:IntKind.i64.wrap ((2 ^ j*q+2 ^ j - 1:Nat):Int)=((2 ^ j*q+2 ^ j - 1:Nat):Int):=IntWalk.i64_in _ (by omega);have e5:((j:Int)).toNat=j:=Int.toNat_natCast j;have e6:(j:Int)≤64:=by omega
  generalize ((nd j q - (2 ^ j - 1):Nat):Int)=U at *;generalize ((nd j q+(2 ^ j - 1):Nat):Int)=V at *;generalize ((2 ^ j*q:Nat):Int)=LO at *;generalize ((2 ^ j*q+2 ^ j - 1:Nat):Int)=HI at *;generalize ((nd j q:Nat):Int)=X at *;generalize ((2 ^ j:Nat):Int)=A at *;clear h hx b1 b2 d1 d2 d3 c1 c2 hq hT;go_enter Tryz.func119,Tryz.ntmps119;go_wp2_with fail;refine HN.out.mono ?_;rintro _ _ ⟨rfl,rfl⟩;go_wp2_with fail;refine HL.out.mono ?_;rintro _ _ ⟨rfl,rfl⟩;go_wp2_with fail;go_ret2;exact ⟨rfl,rfl⟩
 ·rw[decide_eq_false h] at HN
  obtain ⟨c1,c2⟩:=arj h;rw[c1,c2];clear h c1 c2 hT;go_enter Tryz.func119,Tryz.ntmps119;go_wp2_with fail;refine HN.out.mono ?_;rintro _ _ ⟨rfl,rfl⟩;go_wp2_with fail;go_ret2;exact ⟨rfl,rfl⟩
end Go.Proofs.YthmhklmkgkfcpaaGreatDoor
