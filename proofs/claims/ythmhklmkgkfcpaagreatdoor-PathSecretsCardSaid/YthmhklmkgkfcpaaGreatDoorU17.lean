import Derived.Test.YthmhklmkgkfcpaaGreatDoorU3
import Derived.Test.YthmhklmkgkfcpaaGreatDoorU10
import Derived.Test.YthmhklmkgkfcpaaGreatDoorU16
set_option linter.unusedVariables false
set_option linter.unusedSimpArgs false
set_option maxHeartbeats 8000000
set_option maxRecDepth 100000
namespace Go.Proofs.YthmhklmkgkfcpaaGreatDoor
open Go.RowKit
theorem ads (x:Int)(w:World):Calls Tryz.prog 34 #[.int .i64 x] w fun e w'=>e=.returned (.tuple #[.int .i64 (lefV x),.int .i64 (chE x)])∧w=w':=by
 have HLV:=Lib.hid (adL x w);by_cases h:levV x=0
 ·rw[show lefV x=0 from if_pos h,show chE x=1 from if_pos h]
  rw[h] at HLV;clear h;go_enter Tryz.func34,Tryz.ntmps34;go_wp2_with fail;refine HLV.out.mono ?_;rintro _ _ ⟨rfl,rfl⟩;go_wp2_with fail;go_ret2;exact ⟨rfl,rfl⟩
 ·have hok:okN x:=by
   by_cases h2:okN x
   ·exact h2
   ·exact absurd (agj h2) h
  obtain ⟨j,q,rfl,hj,hq⟩:=(aaH x).1 hok;have hb:=(aaH ((nd j q:Nat):Int)).2 ⟨j,q,rfl,hj,hq⟩;rw[abF hj hq] at h HLV;cases j with
  | zero=>exact absurd rfl h
  | succ j=>
   obtain ⟨e1,e2,e3⟩:=adC (j:=j) hj hq;rw[e1,e2];have HH:=Lib.hid (afz j w (by omega));have hp:(2:Nat) ^ j≤2 ^ 10:=Nat.pow_le_pow_right (by omega) (by omega);have hl:=ae7 j q;have hr:=aea j q;have i1:IntKind.i64.wrap (((j+1:Nat):Int) - 1)=(j:Int):=by rw[IntWalk.i64_in _ (by omega)];omega
   obtain ⟨M,hM⟩:∃ M,2 ^ j=M:=⟨_,rfl⟩;rw[hM] at HH hp hl hr;have i2:IntKind.i64.wrap (((nd (j+1) q:Nat):Int) - (M:Int))=((nd j (2*q):Nat):Int):=by rw[IntWalk.i64_in _ (by omega)];omega
   have i3:(((j+1:Nat):Int)==0)=false:=beq_eq_false_iff_ne.2 (by omega);have i4:¬((j+1:Nat):Int)=0:=by omega
   generalize ((nd (j+1) q:Nat):Int)=X at *;generalize ((nd j (2*q):Nat):Int)=Y at *;generalize ((j+1:Nat):Int)=J at *;clear h hok hb e1 e2 e3 hp hl hr hM hj hq;go_enter Tryz.func34,Tryz.ntmps34;go_wp2_with fail;refine HLV.out.mono ?_;rintro _ _ ⟨rfl,rfl⟩;go_wp2_with fail;refine HH.out.mono ?_;rintro _ _ ⟨rfl,rfl⟩;go_wp2_with fail;go_ret2;exact ⟨rfl,rfl⟩
theorem acR (x:Int)(w:World):Calls Tryz.prog 35 #[.int .i64 x] w fun e w'=>e=.returned (.tuple #[.int .i64 (rigV x),.int .i64 (chE x)])∧w=w':=by
 have HLV:=Lib.hid (adL x w);by_cases h:levV x=0
 ·rw[show rigV x=0 from if_pos h,show chE x=1 from if_pos h]
  rw[h] at HLV;clear h;go_enter Tryz.func35,Tryz.ntmps35;go_wp2_with fail;refine HLV.out.mono ?_;rintro _ _ ⟨rfl,rfl⟩;go_wp2_with fail;go_ret2;exact ⟨rfl,rfl⟩
 ·have hok:okN x:=by
   by_cases h2:okN x
   ·exact h2
   ·exact absurd (agj h2) h
  obtain ⟨j,q,rfl,hj,hq⟩:=(aaH x).1 hok;have hb:=(aaH ((nd j q:Nat):Int)).2 ⟨j,q,rfl,hj,hq⟩;rw[abF hj hq] at h HLV;cases j with
  | zero=>exact absurd rfl h
  | succ j=>
   obtain ⟨e1,e2,e3⟩:=adC (j:=j) hj hq;rw[e1,e3];have HH:=Lib.hid (afz j w (by omega));have hp:(2:Nat) ^ j≤2 ^ 10:=Nat.pow_le_pow_right (by omega) (by omega);have hl:=ae7 j q;have hr:=aea j q;have i1:IntKind.i64.wrap (((j+1:Nat):Int) - 1)=(j:Int):=by rw[IntWalk.i64_in _ (by omega)];omega
   obtain ⟨M,hM⟩:∃ M,2 ^ j=M:=⟨_,rfl⟩;rw[hM] at HH hp hl hr;have i2:IntKind.i64.wrap (((nd (j+1) q:Nat):Int)+(M:Int))=((nd j (2*q+1):Nat):Int):=by rw[IntWalk.i64_in _ (by omega)];omega
   have i3:(((j+1:Nat):Int)==0)=false:=beq_eq_false_iff_ne.2 (by omega);have i4:¬((j+1:Nat):Int)=0:=by omega
   generalize ((nd (j+1) q:Nat):Int)=X at *;generalize ((nd j (2*q+1):Nat):Int)=Y at *;generalize ((j+1:Nat):Int)=J at *;clear h hok hb e1 e2 e3 hp hl hr hM hj hq;go_enter Tryz.func35,Tryz.ntmps35;go_wp2_with fail;refine HLV.out.mono ?_;rintro _ _ ⟨rfl,rfl⟩;go_wp2_with fail;refine HH.out.mono ?_;rintro _ _ ⟨rfl,rfl⟩;go_wp2_with fail;go_ret2;exact ⟨rfl,rfl⟩
theorem apb (p:Int):chE p=1∨chE p=0:=by unfold chE;split <;> simp
theorem anU {j q:Nat}(p:Nat)(hp:p≤2046)(hj:j≤10):
  (chE (p:Int)=0∧(lefV (p:Int)=((nd j q:Nat):Int)∨rigV (p:Int)=((nd j q:Nat):Int)))↔p=nd (j+1) (q / 2):=by
 obtain ⟨i,r,e,hi,hr⟩:=ahh 10 p (by omega)
 subst e
 cases i with
 | zero=>
  obtain ⟨e1,e2,e3⟩:=apW (q:=r) (by simpa using hr)
  rw[e1]
  constructor
  ·rintro ⟨h,_⟩;omega
  ·intro h;exact absurd (afy h).1 (by omega)
 | succ i=>
  obtain ⟨e1,e2,e3⟩:=adC (j:=i) hi hr
  rw[e1,e2,e3]
  constructor
  ·rintro ⟨_,h | h⟩
   ·obtain ⟨rfl,rfl⟩:=afy (Int.ofNat.inj h)
    congr 1;omega
   ·obtain ⟨rfl,rfl⟩:=afy (Int.ofNat.inj h)
    congr 1;omega
  ·intro h
   obtain ⟨h1,h2⟩:=afy h
   obtain rfl:i=j:=by omega
   refine ⟨rfl,?_⟩
   by_cases h3:q % 2=0
   ·left;congr 2;omega
   ·right;congr 2;omega
theorem ait (X n:Int)(W T:Nat)(w:World)(hn:IntKind.i64.wrap (2*n)=2*n)(hW:2*n - 1=(W:Int))(hWb:W≤2047)(hin:inB X n=true)(hn2:-9223372036854775808≤n∧n≤9223372036854775807)
  (hm:∀ p:Nat,p≤2046→((chE (p:Int)=0∧(lefV (p:Int)=X∨rigV (p:Int)=X))↔p=T)):
  Calls Tryz.prog 80 #[.int .i64 X,.int .i64 n] w fun e w'=>e=.returned (if T<W then .tuple #[.int .i64 (T:Int),.int .i64 0] else .tuple #[.int .i64 0,.int .i64 11])∧w=w':=by
 have HN:=Lib.hid (ade X n w hn2);rw[hin] at HN;have HM:=Lib.hid hm;have HL:=Lib.hid (fun (p:Nat)=>ads (p:Int) w);have HR:=Lib.hid (fun (p:Nat)=>acR (p:Int) w);have i1:IntKind.i64.wrap (2*n - 1)=(W:Int):=by rw[hW];exact IntWalk.i64_in _ (by omega)
 have i0:IntKind.i64.wrap (W:Int)=(W:Int):=IntWalk.i64_in _ (by omega);obtain ⟨V,hV⟩:∃ V,(if T<W then (.tuple #[.int .i64 (T:Int),.int .i64 0]:Value) else .tuple #[.int .i64 0,.int .i64 11])=V:=⟨_,rfl⟩;rw[hV];have HV:=Lib.hid hV;have HT:=Lib.hid (Nat.lt_or_ge T W);clear hm hin hn2 hV;go_enter Tryz.func80,Tryz.ntmps80;go_wp2_with fail;refine HN.out.mono ?_;rintro _ _ ⟨rfl,rfl⟩;clear HN;go_wp2_with fail;go_loop [7] (fun y=>∃ p:Nat,p≤W∧p≤T∧y=.int .i64 (p:Int)) (fun y=>(W - (intOf y).toNat))
 case atStart=>exact ⟨0,Nat.zero_le _,Nat.zero_le _,rfl⟩
 case round=>
  obtain ⟨p,hp,hpT,rfl⟩:=hrel;by_cases hlt:p<W
  ·have hltI:(p:Int)<(W:Int):=by omega
   have hmp:=HM.out p (by omega);have HLp:=Lib.hid (HL.out p);have HRp:=Lib.hid (HR.out p);have i2:IntKind.i64.wrap ((p:Int)+1)=(p:Int)+1:=IntWalk.i64_in _ (by omega);have hE:=apb (p:Int);clear HM HL HR hW;generalize chE (p:Int)=E at *;generalize lefV (p:Int)=L at *;generalize rigV (p:Int)=R at *;by_cases he:p=T
   ·obtain ⟨h1,h2⟩:=hmp.2 he
    have HV2:Hid (V=.tuple #[.int .i64 (p:Int),.int .i64 0]):=by have:=HV.out;rw[if_pos (by omega)] at this;rw[he];exact this.symm
    subst h1;clear hmp hE HV HT he hpT;by_cases h3:L=X
    ·subst h3
     clear h2;go_wp2_with fail;refine HLp.out.mono ?_;rintro _ _ ⟨rfl,rfl⟩;go_wp2_with fail;refine HRp.out.mono ?_;rintro _ _ ⟨rfl,rfl⟩;go_wp2;go_ret2;exact ⟨by rw[HV2.out] <;> rfl,rfl⟩
    ·have h4:R=X:=h2.resolve_left h3
     subst h4;have b1:(L==R)=false:=beq_eq_false_iff_ne.2 h3;clear h2;go_wp2_with fail;refine HLp.out.mono ?_;rintro _ _ ⟨rfl,rfl⟩;go_wp2_with fail;refine HRp.out.mono ?_;rintro _ _ ⟨rfl,rfl⟩;go_wp2;go_ret2;exact ⟨by rw[HV2.out] <;> rfl,rfl⟩
   ·have hno:¬(E=0∧(L=X∨R=X)):=fun h=>he (hmp.1 h)
    have hpT2:p+1≤T:=by omega
    clear hmp HV HT he hpT;rcases hE with h1 | h1
    ·subst h1
     clear hno;go_wp2_with fail;refine HLp.out.mono ?_;rintro _ _ ⟨rfl,rfl⟩;go_wp2_with fail;refine HRp.out.mono ?_;rintro _ _ ⟨rfl,rfl⟩;go_wp2;go_round
     case rel=>exact ⟨p+1,by omega,hpT2,by go_num⟩
     case measure=>simp[intOf];omega
    ·subst h1
     have h3:¬L=X:=fun h=>hno ⟨rfl,.inl h⟩
     have h4:¬R=X:=fun h=>hno ⟨rfl,.inr h⟩
     have b1:(L==X)=false:=beq_eq_false_iff_ne.2 h3;have b2:(R==X)=false:=beq_eq_false_iff_ne.2 h4;clear hno;go_wp2_with fail;refine HLp.out.mono ?_;rintro _ _ ⟨rfl,rfl⟩;go_wp2_with fail;refine HRp.out.mono ?_;rintro _ _ ⟨rfl,rfl⟩;go_wp2;go_round
     case rel=>exact ⟨p+1,by omega,hpT2,by go_num⟩
     case measure=>simp[intOf];omega
  ·obtain rfl:p=W:=by omega
   have HV2:Hid (V=.tuple #[.int .i64 0,.int .i64 11]):=by have:=HV.out;rw[if_neg (by omega)] at this;exact this.symm
   clear HM HL HR HV HT hW hpT;go_wp2;go_ret2;exact ⟨by rw[HV2.out] <;> rfl,rfl⟩
theorem aiu (x n:Int)(w:World)(hn2:-9223372036854775808≤n∧n≤9223372036854775807):Calls Tryz.prog 80 #[.int .i64 x,.int .i64 n] w fun e w'=>e=.returned (.tuple #[.int .i64 (paV x n),.int .i64 (paE x n)])∧w=w':=by
 by_cases h:inB x n=true
 ·obtain ⟨K,j,q,hK,rfl,rfl,hj,hq⟩:=(adK x n).1 h
  obtain ⟨_,hj10,hq10⟩:=aa4 hK hj hq;have h1:=acc hK;have h2:=aaC K;have h3:=aaj K;obtain ⟨W,hW⟩:∃ W,2 ^ (K+1) - 1=W:=⟨_,rfl⟩;have:=ait ((nd j q:Nat):Int) ((2 ^ K:Nat):Int) W (nd (j+1) (q / 2)) w (IntWalk.i64_in _ (by omega)) (by omega) (by omega) h hn2 (fun p hp=>anU p hp hj10);refine this.mono ?_;rintro _ _ ⟨rfl,rfl⟩;by_cases hr:j=K
  ·subst hr
   have hq0:q=0:=by simp at hq;exact hq
   subst hq0;obtain ⟨e1,e2,_⟩:=apY hK;rw[e1,e2,if_neg]
   ·exact ⟨rfl,rfl⟩
   ·intro hlt
    rw[← hW] at hlt;have:=(nd_in hlt).1;omega
  ·obtain ⟨e1,e2,_⟩:=apL (K:=K) (j:=j) (q:=q) hK (by omega) hq
   rw[e1,e2,if_pos]
   ·exact ⟨rfl,rfl⟩
   ·rw[← hW]
    refine ae8 (by omega) ?_;have e:K - j=(K - (j+1))+1:=by omega
    rw[e,aaj] at hq;omega
 ·obtain ⟨e1,e2,_⟩:=pa_no h
  have h2:inB x n=false:=by rw[Bool.eq_false_iff];exact h
  have HN:=Lib.hid (ade x n w hn2);rw[h2] at HN;rw[e1,e2];clear h h2 e1 e2 hn2;go_enter Tryz.func80,Tryz.ntmps80;go_wp2_with fail;refine HN.out.mono ?_;rintro _ _ ⟨rfl,rfl⟩;go_wp2_with fail;go_ret2;exact ⟨rfl,rfl⟩
theorem Tryz.info83:(Tryz.prog.info? 3).map (fun i=>(i.zero,i.size,i.bytes))=some (some (.int .i64 0),1,8):=by kernel_rfl
theorem ad0:arJ Tryz.prog 34 3:=arJ.mk' Tryz.underlying34 Tryz.info83 (by decide) rfl
structure Way (K j q:Nat):Prop where
 node:∀ i,i≤K - j→0≤((nd (j+i) (q / 2 ^ i):Nat):Int)∧((nd (j+i) (q / 2 ^ i):Nat):Int)≤2046∧lev (nd (j+i) (q / 2 ^ i))=j+i
 root:∀ i,i≤K - j→(((nd (j+i) (q / 2 ^ i):Nat):Int)=((2 ^ K:Nat):Int) - 1↔i=K - j)
 up:∀ i,i<K - j→paE ((nd (j+i) (q / 2 ^ i):Nat):Int) ((2 ^ K:Nat):Int)=0∧paV ((nd (j+i) (q / 2 ^ i):Nat):Int) ((2 ^ K:Nat):Int)=((nd (j+(i+1)) (q / 2 ^ (i+1)):Nat):Int)∧siV ((nd (j+i) (q / 2 ^ i):Nat):Int) ((2 ^ K:Nat):Int)=((nd (j+i) (sq (q / 2 ^ i)):Nat):Int)
theorem way {K j q:Nat}(hK:K≤10)(hj:j≤K)(hq:q<2 ^ (K - j)):Way K j q:=by
 have hl:∀ i,i≤K - j→q / 2 ^ i<2 ^ (K - (j+i)):=fun i hi=>ae9 hq hi
 refine ⟨fun i hi=>?_,fun i hi=>?_,fun i hi=>?_⟩
 ·obtain ⟨h1,h2,h3⟩:=aa4 hK (j:=j+i) (by omega) (hl i hi)
  exact ⟨by omega,by omega,adJ _ _ (by omega)⟩
 ·have h1:=ahF (hl i hi) (show j+i≤K by omega)
  have h2:=aaC K;generalize nd (j+i) (q / 2 ^ i)=X at *;generalize 2 ^ K=N at *;constructor
  ·intro h3
   have:=h1.1 (by omega);omega
  ·intro h3
   have:=h1.2 (by omega);omega
 ·obtain ⟨e1,e2,e3⟩:=apL (K:=K) (j:=j+i) (q:=q / 2 ^ i) hK (by omega) (hl i (by omega))
  refine ⟨e1,?_,e3⟩;rw[e2,agi];rfl
theorem aky (K j q:Nat)(w:World)(hK:K≤10)(hj:j≤K)(hq:q<2 ^ (K - j)):
  Calls Tryz.prog 48 #[.int .i64 ((nd j q:Nat):Int),.int .i64 ((2 ^ K:Nat):Int)] w fun e w'=>(∃ v,e=.returned (.tuple #[v,.int .i64 0])∧ON 3 w' w.heap.size v (aah K j q))∧Kp w w':=by
 have S:=ad0;have hin:=(adK ((nd j q:Nat):Int) ((2 ^ K:Nat):Int)).2 ⟨K,j,q,hK,rfl,rfl,hj,hq⟩;have hb:=acc hK;have hb2:=aaC K;have hn2:-9223372036854775808≤((2 ^ K:Nat):Int)∧((2 ^ K:Nat):Int)≤9223372036854775807:=by omega
 have HN:=Lib.hid (ade ((nd j q:Nat):Int) ((2 ^ K:Nat):Int) w hn2);rw[hin] at HN;obtain ⟨w1,w2,w3⟩:=way hK hj hq;have HT:=Lib.hid (ahG K j q);have HL:=Lib.hid (acb K j q);have HP:Hid (∀ i W,i<K - j→Calls Tryz.prog 80 #[.int .i64 ((nd (j+i) (q / 2 ^ i):Nat):Int),.int .i64 ((2 ^ K:Nat):Int)] W fun e w'=>e=.returned (.tuple #[.int .i64 ((nd (j+(i+1)) (q / 2 ^ (i+1)):Nat):Int),.int .i64 0])∧W=w'):=fun i W hi=>by
  have:=aiu ((nd (j+i) (q / 2 ^ i):Nat):Int) ((2 ^ K:Nat):Int) W hn2;rwa [(w3 i hi).1,(w3 i hi).2.1] at this
 have i1:IntKind.i64.wrap (((2 ^ K:Nat):Int) - 1)=((2 ^ K:Nat):Int) - 1:=IntWalk.i64_in _ (by omega);obtain ⟨f,hf⟩:∃ f:Nat→Nat,f=fun i=>nd (j+i) (q / 2 ^ i):=⟨_,rfl⟩
 have hfi:∀ i,nd (j+i) (q / 2 ^ i)=f i:=fun i=>by rw[hf]
 have hf0:nd j q=f 0:=by rw[hf];simp
 have HT2:Hid (∀ i,i<K - j→(aah K j q).take (i+1)=(aah K j q).take i++[f (i+1)]):=fun i hi=>by
  rw[HT.out i hi];rw[hf];simp only[];congr 3;omega
 have HE:Hid ((aah K j q).take (K - j)=aah K j q):=by unfold Hid;rw[List.take_of_length_le (by rw[HL.out];omega)]
 generalize aah K j q=PL at *;simp only[hfi] at *;rw[hf0] at HN ⊢;have W1:=Lib.hid w1;have W2:=Lib.hid w2;have hdk:K - j≤10:=by omega
 have HJ:Hid (∀ i,i≤K - j→lev (f i)=j+i):=fun i hi=>(w1 i hi).2.2
 generalize ((2 ^ K:Nat):Int)=N at *;clear hin hb hb2 hn2 w1 w2 w3 HT hf hfi hf0 hq;go_enter Tryz.func48,Tryz.ntmps48;go_wp2_with fail;refine HN.out.mono ?_;rintro _ _ ⟨rfl,rfl⟩;clear HN;go_wp2_with fail;go_loopw[0,7] (fun x v wr=>∃ i:Nat,i≤K - j∧x=.int .i64 ((f i:Nat):Int)∧ON 3 wr w.heap.size v (PL.take i)∧Kp w wr) (fun x _ _=>(20 - lev (intOf x).toNat))
 case atStart=>exact ⟨0,Nat.zero_le _,rfl,ON.nil _ _ _,Kp.refl _⟩
 case round=>
  obtain ⟨i,hi,rfl,ho,hk⟩:=hrel;have hroot:=W2.out i hi;obtain ⟨b1,b2,b3⟩:=W1.out i hi;by_cases hlt:i<K - j
  ·have hne:¬((f i:Nat):Int)=N - 1:=fun h=>by have:=hroot.1 h;omega
   have hbf:(((f i:Nat):Int)==N - 1)=false:=beq_eq_false_iff_ne.2 hne;have HP1:=Lib.hid (HP.out i wr hlt);have HTI:=Lib.hid (HT2.out i hlt);have HLV:=Lib.hid (And.intro (HJ.out i hi) (HJ.out (i+1) (by omega)));have hsz:=hk.size;have HLN:Hid ((PL.take i).length≤1000000):=by unfold Hid;rw[List.length_take,HL.out];omega
   generalize PL.take i=L at *;clear W1 W2 HP HT2 HE HJ hroot b1 b2 b3;go_wp2_with fail;refine HP1.out.mono ?_;rintro _ _ ⟨rfl,rfl⟩;go_wp2_with (at_builtin;refine adM (o:=⟨some 28,_,_,_,_,_⟩) S rfl _ _ rfl w.heap.size _ L rfl (ho.kp ((Kp.refl wr).alloc _)) _ _ rfl (ON.lit1 wr 3 (f (i+1))) HLN.out (by simp;omega) ?_;intro v4 w4 o4 g4;have k4:Kp w w4:=Kp.grown (hk.alloc _) g4 ho.own_ge)
   go_roundw
   case rel=>exact ⟨i+1,by omega,rfl,by rw[HTI.out];exact o4,k4⟩
   case measure=>have:=HLV.out;simp[intOf];omega
  ·obtain rfl:i=K - j:=by omega
   have heq:((f (K - j):Nat):Int)=N - 1:=hroot.2 rfl;rw[HE.out] at ho;have R:=Lib.hid ho;obtain ⟨av,nv,cv,rfl⟩:=ho.rn.sl;have KK:=Lib.hid hk;clear W1 W2 HP HT2 HE HJ hroot b1 b2 b3 ho hk;go_wp2_with fail;go_ret2;exact ⟨⟨_,rfl,R.out⟩,KK.out⟩
theorem akz (x n:Int)(w:World)(hn2:-9223372036854775808≤n∧n≤9223372036854775807):
  Calls Tryz.prog 48 #[.int .i64 x,.int .i64 n] w fun e w'=>(∃ v,e=.returned (.tuple #[v,.int .i64 (arE x n)])∧ON 3 w' w.heap.size v (amZ x n))∧Kp w w':=by
 by_cases h:inB x n=true
 ·obtain ⟨K,j,q,hK,rfl,rfl,hj,hq⟩:=(adK x n).1 h
  obtain ⟨e1,e2,e3⟩:=apM hK hj hq;rw[e1,e2];exact aky K j q w hK hj hq
 ·obtain ⟨e1,e2,e3⟩:=ar_no h
  have h2:inB x n=false:=by rw[Bool.eq_false_iff];exact h
  have HN:=Lib.hid (ade x n w hn2);rw[h2] at HN;rw[e1,e2];clear h h2 e1 e2 e3 hn2;go_enter Tryz.func48,Tryz.ntmps48;go_wp2_with fail;refine HN.out.mono ?_;rintro _ _ ⟨rfl,rfl⟩;go_wp2_with fail;go_ret2;exact ⟨⟨_,rfl,ON.nil _ _ _⟩,Kp.refl _⟩
theorem aef (n:Int)(w:World):Calls Tryz.prog 127 #[.int .i64 n] w fun e w'=>e=.returned (.tuple #[.int .i64 (widV n),.int .i64 (widE n)])∧w=w':=by
 have HT:=Lib.hid (ahK n w);by_cases ht:isTB n=true
 ·have h1:=acu ht
  have h2:IntKind.i64.wrap (2*n)=2*n:=IntWalk.i64_in _ (by omega);have h3:IntKind.i64.wrap (2*n - 1)=2*n - 1:=IntWalk.i64_in _ (by omega);rw[show widV n=2*n - 1 from if_pos ht,show widE n=0 from if_pos ht];rw[ht] at HT;clear ht h1;go_enter Tryz.func127,Tryz.ntmps127;go_wp2_with fail;refine HT.out.mono ?_;rintro _ _ ⟨rfl,rfl⟩;go_wp2_with fail;go_ret2;exact ⟨rfl,rfl⟩
 ·have ht2:isTB n=false:=by rw[Bool.eq_false_iff];exact ht
  rw[show widV n=0 from if_neg ht,show widE n=1 from if_neg ht];rw[ht2] at HT;clear ht ht2;go_enter Tryz.func127,Tryz.ntmps127;go_wp2_with fail;refine HT.out.mono ?_;rintro _ _ ⟨rfl,rfl⟩;go_wp2_with fail;go_ret2;exact ⟨rfl,rfl⟩
theorem ah7 {k:Nat}(h:k≤10):((2 ^ k:Nat):Int)≤1024∧1≤((2 ^ k:Nat):Int):=by have:=acc h;have:=aaC k;omega
theorem aoa (k:Nat)(h:k≤10):IntKind.i64.wrap (1*2 ^ k)=((2 ^ k:Nat):Int):=by
 have h1:=ah7 h;have e:(1:Int)*2 ^ k=((2 ^ k:Nat):Int):=by push_cast;omega
 rw[e];exact IntWalk.i64_in _ (by omega)
theorem aob (k:Nat)(h:k≤10):IntKind.i64.wrap (2 ^ k)=((2 ^ k:Nat):Int):=by
 have:=aoa k h;rwa [Int.one_mul] at this
theorem aqJ (k:Nat)(h:k≤10):IntKind.i64.wrap (-1*2 ^ k) = -((2 ^ k:Nat):Int):=by
 have h1:=ah7 h;have e:(-1:Int)*2 ^ k = -((2 ^ k:Nat):Int):=by push_cast;omega
 rw[e];exact IntWalk.i64_in _ (by omega)
theorem ajN (j q:Nat)(s:Int)(w:World)(hj:j+1≤10)(hq:q<2 ^ (10 - (j+1)))(hs:s=1∨s = -1)(hT:Tab w):
  Calls Tryz.prog 165 #[.int .i64 ((nd (j+1) q:Nat):Int),.int .i64 s] w fun e w'=>e=.returned (.tuple #[.int .i64 (((nd (j+1) q:Nat):Int)+s*((2 ^ j:Nat):Int)),.int .i64 0])∧w=w':=by
 have HL:=Lib.hid (abi ((nd (j+1) q:Nat):Int) w hT);rw[abF hj hq] at HL;have hx:=(aaH ((nd (j+1) q:Nat):Int)).2 ⟨j+1,q,rfl,hj,hq⟩;obtain ⟨b1,b2⟩:=ah7 (k:=j) (by omega);have e1:IntKind.i64.wrap (((j+1:Nat):Int) - 1)=(j:Int):=by rw[IntWalk.i64_in _ (by omega)];omega
 have e0:¬((j+1:Nat):Int)=0:=by omega
 have e0':(((j+1:Nat):Int)==0)=false:=beq_eq_false_iff_ne.2 e0;have e3:IntKind.i64.wrap (s*2 ^ j)=s*((2 ^ j:Nat):Int):=by
  rcases hs with rfl | rfl
  ·rw[aoa j (by omega)];omega
  ·rw[aqJ j (by omega)];omega
 have e4:IntKind.i64.wrap (((nd (j+1) q:Nat):Int)+s*((2 ^ j:Nat):Int))=((nd (j+1) q:Nat):Int)+s*((2 ^ j:Nat):Int):=IntWalk.i64_in _ (by rcases hs with rfl | rfl <;> omega);have e5:((j:Int)).toNat=j:=Int.toNat_natCast j;have e6:(j:Int)≤64:=by omega
 generalize s*((2 ^ j:Nat):Int)=M at *;generalize ((j+1:Nat):Int)=J1 at *;generalize ((nd (j+1) q:Nat):Int)=X at *;clear hx hq hj hT b1 b2 hs;go_enter Tryz.func165,Tryz.ntmps165;go_wp2_with fail;refine HL.out.mono ?_;rintro _ _ ⟨rfl,rfl⟩;go_wp2_with fail;go_ret2;exact ⟨rfl,rfl⟩
theorem alB (x s:Int)(w:World)(h:levV x=0)(hT:Tab w):
  Calls Tryz.prog 165 #[.int .i64 x,.int .i64 s] w fun e w'=>e=.returned (.tuple #[.int .i64 0,.int .i64 1])∧w=w':=by
 have HL:=Lib.hid (abi x w hT);rw[h] at HL;clear h hT;go_enter Tryz.func165,Tryz.ntmps165;go_wp2_with fail;refine HL.out.mono ?_;rintro _ _ ⟨rfl,rfl⟩;go_wp2_with fail;go_ret2;exact ⟨rfl,rfl⟩
theorem agT (x:Int):levV x=0∨∃ j q,x=((nd (j+1) q:Nat):Int)∧j+1≤10∧q<2 ^ (10 - (j+1)):=by
 by_cases h:okN x
 ·obtain ⟨j,q,rfl,hj,hq⟩:=(aaH x).1 h
  cases j with
  | zero=>exact .inl (abF hj hq)
  | succ j=>exact .inr ⟨j,q,rfl,hj,hq⟩
 ·exact .inl (agj h)
theorem adw (x:Int)(w:World)(hT:Tab w):Calls Tryz.prog 128 #[.int .i64 x] w fun e w'=>e=.returned (.tuple #[.int .i64 (lefV x),.int .i64 (chE x)])∧w=w':=by
 have H:Hid (Calls Tryz.prog 165 #[.int .i64 x,.int .i64 (-1)] w fun e w'=>e=.returned (.tuple #[.int .i64 (lefV x),.int .i64 (chE x)])∧w=w'):=by
  rcases agT x with h | ⟨j,q,rfl,hj,hq⟩
  ·have h1:lefV x=0:=if_pos h
   have h2:chE x=1:=if_pos h;rw[h1,h2];exact alB x (-1) w h hT
  ·obtain ⟨h1,h2,_⟩:=adC hj hq
   obtain ⟨h3,h4⟩:=ae7 j q;have:=ajN j q (-1) w hj hq (.inr rfl) hT;rw[h1,h2];rwa [show ((nd (j+1) q:Nat):Int)+-1*((2 ^ j:Nat):Int)=((nd j (2*q):Nat):Int) by omega] at this
 clear hT;go_enter Tryz.func128,Tryz.ntmps128;go_wp2_with fail;refine H.out.mono ?_;rintro _ _ ⟨rfl,rfl⟩;go_wp2_with fail;go_ret2;exact ⟨rfl,rfl⟩
theorem aeg (x:Int)(w:World)(hT:Tab w):Calls Tryz.prog 129 #[.int .i64 x] w fun e w'=>e=.returned (.tuple #[.int .i64 (rigV x),.int .i64 (chE x)])∧w=w':=by
 have H:Hid (Calls Tryz.prog 165 #[.int .i64 x,.int .i64 1] w fun e w'=>e=.returned (.tuple #[.int .i64 (rigV x),.int .i64 (chE x)])∧w=w'):=by
  rcases agT x with h | ⟨j,q,rfl,hj,hq⟩
  ·have h1:rigV x=0:=if_pos h
   have h2:chE x=1:=if_pos h;rw[h1,h2];exact alB x 1 w h hT
  ·obtain ⟨h1,_,h2⟩:=adC hj hq
   have h3:=aea j q;have:=ajN j q 1 w hj hq (.inl rfl) hT;rw[h1,h2];rwa [show ((nd (j+1) q:Nat):Int)+1*((2 ^ j:Nat):Int)=((nd j (2*q+1):Nat):Int) by omega] at this
 clear hT;go_enter Tryz.func129,Tryz.ntmps129;go_wp2_with fail;refine H.out.mono ?_;rintro _ _ ⟨rfl,rfl⟩;go_wp2_with fail;go_ret2;exact ⟨rfl,rfl⟩
theorem ams (j q:Nat)(w:World)(hj:j<10)(hq:q<2 ^ (10 - j))(hT:Tab w):
  Calls Tryz.prog 164 #[.int .i64 ((nd j q:Nat):Int)] w fun e w'=>e=.returned (.int .i64 ((nd (j+1) (q / 2):Nat):Int))∧w=w':=by
 have HL:=Lib.hid (abi ((nd j q:Nat):Int) w hT);rw[abF (by omega) hq] at HL;have hx:=(aaH ((nd j q:Nat):Int)).2 ⟨j,q,rfl,by omega,hq⟩;obtain ⟨b1,b2⟩:=ah7 (k:=j) (by omega);have e1:=aob j (by omega);have e2:IntKind.i64.wrap (2*((2 ^ j:Nat):Int))=((2 ^ (j+1):Nat):Int):=by rw[aaj,IntWalk.i64_in _ (by omega)];omega
 have e3:=ac1 (nd j q) (2 ^ (j+1)) (by omega) (by rw[aaj];omega);rw[aoA] at e3;have e5:((j:Int)).toNat=j:=Int.toNat_natCast j;have e6:(j:Int)≤64:=by omega
 by_cases h:q % 2=0
 ·have h1:=am1 j q h
  have e4:IntKind.i64.wrap (((nd j q:Nat):Int)+((2 ^ j:Nat):Int))=((nd (j+1) (q / 2):Nat):Int):=by rw[IntWalk.i64_in _ (by omega)];omega
  rw[if_pos h] at e3;generalize ((nd (j+1) (q / 2):Nat):Int)=Y at *;generalize ((2 ^ (j+1):Nat):Int)=B at *;generalize ((nd j q:Nat):Int)=X at *;generalize ((2 ^ j:Nat):Int)=A at *;clear hx hq hj hT b1 b2 h h1;go_enter Tryz.func164,Tryz.ntmps164;go_wp2_with fail;refine HL.out.mono ?_;rintro _ _ ⟨rfl,rfl⟩;go_wp2_with fail;go_ret;exact ⟨rfl,rfl⟩
 ·obtain ⟨h1,h2⟩:=alc j q h
  have e4:IntKind.i64.wrap (((nd j q:Nat):Int) - ((2 ^ j:Nat):Int))=((nd (j+1) (q / 2):Nat):Int):=by rw[IntWalk.i64_in _ (by omega)];omega
  rw[if_neg h] at e3;have e7:(((2 ^ (j+1):Nat):Int)==0)=false:=beq_eq_false_iff_ne.2 (by have:=aaC (j+1);omega);generalize ((nd (j+1) (q / 2):Nat):Int)=Y at *;generalize ((2 ^ (j+1):Nat):Int)=B at *;generalize ((nd j q:Nat):Int)=X at *;generalize ((2 ^ j:Nat):Int)=A at *;clear hx hq hj hT b1 b2 h h1 h2;go_enter Tryz.func164,Tryz.ntmps164;go_wp2_with fail;refine HL.out.mono ?_;rintro _ _ ⟨rfl,rfl⟩;go_wp2_with fail;go_ret;exact ⟨rfl,rfl⟩
theorem apo (n:Int)(w:World)(hn:-9223372036854775807≤n∧n≤9223372036854775807):Calls Tryz.prog 163 #[.int .i64 n] w fun e w'=>e=.returned (.int .i64 (n - 1))∧w=w':=by
 have e1:IntKind.i64.wrap (n - 1)=n - 1:=IntWalk.i64_in _ (by omega);go_enter Tryz.func163,Tryz.ntmps163;go_wp2_with fail;go_ret;exact ⟨rfl,rfl⟩
theorem arv {K j q:Nat}(hK:K≤10)(hq:q<2 ^ (K - j)):q<2 ^ (10 - j):=Nat.lt_of_lt_of_le hq (Nat.pow_le_pow_right (by omega) (by omega))
theorem akQ (j q:Nat)(w:World)(hj:j<10)(hq:q<2 ^ (10 - j)):
  Calls Tryz.prog 126 #[.int .i64 ((nd j q:Nat):Int),.int .i64 ((nd (j+1) (q / 2):Nat):Int)] w fun e w'=>e=.returned (.int .i64 ((nd j (sq q):Nat):Int))∧w=w':=by
 have h1:=apZ j q;have hx:=(aaH ((nd j q:Nat):Int)).2 ⟨j,q,rfl,by omega,hq⟩;have hy:=(aaH ((nd (j+1) (q / 2):Nat):Int)).2 ⟨j+1,q / 2,rfl,by omega,by
  have:2 ^ (10 - j)=2*2 ^ (10 - (j+1)):=by rw[show 10 - j=(10 - (j+1))+1 by omega,aaj]
  omega⟩
 have e1:IntKind.i64.wrap (2*((nd (j+1) (q / 2):Nat):Int))=2*((nd (j+1) (q / 2):Nat):Int):=IntWalk.i64_in _ (by omega);have e2:IntKind.i64.wrap (2*((nd (j+1) (q / 2):Nat):Int) - ((nd j q:Nat):Int))=((nd j (sq q):Nat):Int):=by rw[IntWalk.i64_in _ (by omega)];omega
 generalize ((nd (j+1) (q / 2):Nat):Int)=Y at *;generalize ((nd j q:Nat):Int)=X at *;generalize ((nd j (sq q):Nat):Int)=Z at *;clear h1 hx hy hq hj;go_enter Tryz.func126,Tryz.ntmps126;go_wp2_with fail;go_ret;exact ⟨rfl,rfl⟩
theorem agU (x:Int)(w:World)(hT:Tab w):Calls Tryz.prog 119 #[.int .i64 x] w fun e w'=>e=.returned (.tuple #[.int .i64 (loV x),.int .i64 (hiV x)])∧w=w':=by
 have HN:=Lib.hid (aeb x 1024 w);rw[ald] at HN;by_cases h:okN x
 ·obtain ⟨j,q,rfl,hj,hq⟩:=(aaH x).1 h
  rw[decide_eq_true h] at HN;obtain ⟨c1,c2⟩:=am0 hj hq;rw[c1,c2];have HL:=Lib.hid (abi ((nd j q:Nat):Int) w hT);rw[abF hj hq] at HL;have hx:0≤((nd j q:Nat):Int)∧((nd j q:Nat):Int)≤2046:=h;obtain ⟨b1,b2⟩:=ah7 hj;obtain ⟨d1,d2⟩:=amW j q;have d3:2 ^ j - 1≤nd j q:=by unfold nd;omega
  have e1:=aob j hj;have e2:IntKind.i64.wrap (((2 ^ j:Nat):Int) - 1)=((2 ^ j:Nat):Int) - 1:=IntWalk.i64_in _ (by omega);have e3:IntKind.i64.wrap (((nd j q:Nat):Int) - (((2 ^ j:Nat):Int) - 1))=((nd j q - (2 ^ j - 1):Nat):Int):=by rw[IntWalk.i64_in _ (by omega)];omega
  have e4:IntKind.i64.wrap (((nd j q:Nat):Int)+(((2 ^ j:Nat):Int) - 1))=((nd j q+(2 ^ j - 1):Nat):Int):=by rw[IntWalk.i64_in _ (by omega)];omega
  have e7:((nd j q - (2 ^ j - 1):Nat):Int).tdiv 2=((2 ^ j*q:Nat):Int):=by rw[Int.tdiv_eq_ediv_of_nonneg (by omega)];omega
  have e8:((nd j q+(2 ^ j - 1):Nat):Int).tdiv 2=((2 ^ j*q+2 ^ j - 1:Nat):Int):=by rw[Int.tdiv_eq_ediv_of_nonneg (by omega)];omega
  have e9:IntKind.i64.wrap ((2 ^ j*q:Nat):Int)=((2 ^ j*q:Nat):Int):=IntWalk.i64_in _ (by omega);have e10:IntKind.i64.wrap ((2 ^ j*q+2 ^ j - 1:Nat):Int)=((2 ^ j*q+2 ^ j - 1:Nat):Int):=IntWalk.i64_in _ (by omega);have e5:((j:Int)).toNat=j:=Int.toNat_natCast j;have e6:(j:Int)≤64:=by omega
  generalize ((nd j q - (2 ^ j - 1):Nat):Int)=U at *;generalize ((nd j q+(2 ^ j - 1):Nat):Int)=V at *;generalize ((2 ^ j*q:Nat):Int)=LO at *;generalize ((2 ^ j*q+2 ^ j - 1:Nat):Int)=HI at *;generalize ((nd j q:Nat):Int)=X at *;generalize ((2 ^ j:Nat):Int)=A at *;clear h hx b1 b2 d1 d2 d3 c1 c2 hq hT;go_enter Tryz.func119,Tryz.ntmps119;go_wp2_with fail;refine HN.out.mono ?_;rintro _ _ ⟨rfl,rfl⟩;go_wp2_with fail;refine HL.out.mono ?_;rintro _ _ ⟨rfl,rfl⟩;go_wp2_with fail;go_ret2;exact ⟨rfl,rfl⟩
 ·rw[decide_eq_false h] at HN
  obtain ⟨c1,c2⟩:=aq4 h;rw[c1,c2];clear h c1 c2 hT;go_enter Tryz.func119,Tryz.ntmps119;go_wp2_with fail;refine HN.out.mono ?_;rintro _ _ ⟨rfl,rfl⟩;go_wp2_with fail;go_ret2;exact ⟨rfl,rfl⟩
attribute [local go_sem] Oper.semAt_some
theorem apR (x n:Int)(w:World):
  Calls Tryz.prog 125 #[.int .i64 x,.int .i64 n] w fun e w'=>e=.returned (.func (.func 162) #[] #[.pointer (some ⟨w.heap.size,0,none⟩),.pointer (some ⟨w.heap.size+1,0,none⟩)])∧(w.alloc (.cells #[.int .i64 x] 3)).alloc (.cells #[.int .i64 n] 3)=w':=by
 go_enter Tryz.func125,Tryz.ntmps125;go_wp2;go_ret;exact ⟨rfl,rfl⟩
theorem app (K j q b1 b2:Nat)(w:World)(hK:K≤10)(hj:j≤K)(hq:q<2 ^ (K - j))(h1:w.cell? ⟨b1,0,none⟩=some (.int .i64 ((nd j q:Nat):Int)))(h2:w.cell? ⟨b2,0,none⟩=some (.int .i64 ((2 ^ K:Nat):Int)))(hTab:Tab w)(f:Nat→Nat)(hf:f=fun i=>nd (j+i) (q / 2 ^ i)):
  alC Tryz.prog 162 #[.pointer (some ⟨b1,0,none⟩),.pointer (some ⟨b2,0,none⟩)] (fun i v _ _=>v=#[.int .i64 ((f i:Nat):Int),.int .i64 ((f (i+1):Nat):Int)]) (K - j) (fun k=>k=b1∨k=b2∨k=1) w:=by
 intro l J Jx W hh hl1 hl2 hJ hJx hY h0;have c1:=hh.cell h1 (.inl rfl);have c2:=hh.cell h2 (.inr (.inl rfl));have hT:=hTab.held hh (.inr (.inr rfl));have HJ:=Lib.hid hJ;have HY:=Lib.hid hY;obtain ⟨w1,w2,w3⟩:=way hK hj hq;have HP:Hid (∀ i W,i<K - j→Tab W→Calls Tryz.prog 164 #[.int .i64 ((f i:Nat):Int)] W fun e w'=>e=.returned (.int .i64 ((f (i+1):Nat):Int))∧W=w'):=fun i W hi hT=>by
  have h1:=ams (j+i) (q / 2 ^ i) W (by omega) (arv hK (ae9 hq (by omega))) hT;rw[← agi] at h1;rw[hf];exact h1
 have HR:Hid (∀ W,Calls Tryz.prog 163 #[.int .i64 ((2 ^ K:Nat):Int)] W fun e w'=>e=.returned (.int .i64 (((2 ^ K:Nat):Int) - 1))∧W=w'):=fun W=>apo _ W (by have:=ah7 hK;omega)
 have hf0:nd j q=f 0:=by rw[hf];simp
 have hfi:∀ i,nd (j+i) (q / 2 ^ i)=f i:=fun i=>by rw[hf]
 simp only[hfi] at w1 w2;have W1:=Lib.hid (fun i hi=>(w1 i hi).2.2);have W2:=Lib.hid w2;have hdk:K - j≤10:=by omega
 rw[hf0] at c1;have HH:=Lib.hid hh;generalize ((2 ^ K:Nat):Int)=N at *;clear hJ hY w1 w2 w3 hf hf0 hfi h1 h2 hTab hh hq;refine (callsIn_wide (n:=5)).1 ?_;refine callsIn_of_wp Tryz.func162 rfl trivial ?_ rfl;simp only[Tryz.ntmps162,List.append_toArray,List.append_nil,List.size_toArray,List.length_cons,List.length_nil,Nat.reduceAdd,Nat.reduceSub,Array.replicate_succ,Array.replicate_zero,List.push_toArray,List.nil_append,List.cons_append];gi_wp2
 gi_loopw [4] (fun p wr=>∃ (i:Nat) (Y:Nat→Prop),i≤K - j∧p=.int .i64 ((f i:Nat):Int)∧wr.cell? ⟨b2,0,none⟩=some (.int .i64 N)∧Tab wr∧Held (fun k=>k=b1∨k=b2∨k=1) w wr∧J i Y wr∧(∀ k,Y k→W.heap.size≤k∧k<wr.heap.size)∧W.heap.size≤wr.heap.size) (fun p _=>30 - lev (intOf p).toNat)
 case atStart=>exact ⟨0,_,by omega,rfl,c2,hT,HH.out,h0,fun _ h=>h.elim,Nat.le_refl _⟩
 case round=>
  clear c1 c2 hT h0;obtain ⟨i,Y,hi,rfl,hc2,hT,hhw,hjy,hyb,hsz⟩:=hrel;have hmx:Tryz.prog.follows .mixedOrders=true:=by kernel_rfl
  have hls:Tryz.prog.follows .lateStores=true:=by kernel_rfl
  have hroot:=W2.out i hi;by_cases hlt:i<K - j
  ·have hne:¬((f i:Nat):Int)=N - 1:=fun h=>by have:=hroot.1 h;omega
   have hbf:(((f i:Nat):Int) != N - 1)=true:=bne_iff_ne.2 hne;obtain ⟨fn,tmps,assign,body,hy,hR⟩:=HY.out i Y wr #[.int .i64 ((f i:Nat):Int),.int .i64 ((f (i+1):Nat):Int)] 4 hlt hjy hyb hhw rfl;have HLV:=Lib.hid (And.intro (W1.out i hi) (W1.out (i+1) (by omega)));have HTT:=Lib.hid hT;clear hroot hne;gi_wp2_with (first | (refine ⟨trivial,?_⟩;gi_at_call 163;refine (callsIn_wide.2 (HR.out _)).mono ?_;rintro _ _ ⟨rfl,rfl⟩) | (refine ⟨trivial,?_⟩;gi_at_call 164;refine (callsIn_wide.2 (HP.out i _ hlt HTT.out)).mono ?_;rintro _ _ ⟨rfl,rfl⟩))
   refine hR.mono ?_;rintro e w2 ⟨hh2,(⟨rfl,hj2⟩ | ⟨rfl,hx2⟩)⟩
   ·have hc3:=hh2.cell hc2 (.inr (.inr (.inl rfl)))
    have hT3:=HTT.out.held hh2 (.inr (.inr (.inr rfl)));have HT3:=Lib.hid hT3;have HH3:=Lib.hid (hhw.trans (hh2.mono (fun _ h=>.inr h)));clear hy hR hT3;gi_wp2_with (refine ⟨trivial,?_⟩;gi_at_call 164;refine (callsIn_wide.2 (HP.out i _ hlt HT3.out)).mono ?_;rintro _ _ ⟨rfl,rfl⟩)
    go_roundw
    case rel=>exact ⟨i+1,Y,by omega,rfl,hc3,HT3.out,HH3.out,hj2,fun k h=>⟨(hyb k h).1,Nat.lt_of_lt_of_le (hyb k h).2 hh2.size⟩,by have:=hh2.size;omega⟩
    case measure=>have:=HLV.out;simp[intOf];omega
   ·clear hy hR
    gi_wp2
    refine bodyPost_ret (results_none rfl _ _ _) rfl ?_;exact ⟨⟨_,rfl⟩,Y,fun k h=>⟨(hyb k h).1,Nat.lt_of_lt_of_le (hyb k h).2 hh2.size⟩,.inr ⟨i,hlt,hx2⟩⟩
  ·obtain rfl:i=K - j:=by omega
   have heq:((f (K - j):Nat):Int)=N - 1:=hroot.2 rfl;have hbf:(((f (K - j):Nat):Int) != N - 1)=false:=by rw[heq];simp
   clear heq hroot;gi_wp2_with (refine ⟨trivial,?_⟩;gi_at_call 163;refine (callsIn_wide.2 (HR.out _)).mono ?_;rintro _ _ ⟨rfl,rfl⟩)
   go_end0
   exact ⟨⟨_,rfl⟩,Y,hyb,.inl hjy⟩
end Go.Proofs.YthmhklmkgkfcpaaGreatDoor
