import Derived.Test.YthmhklmkgkfcpaaGreatDoorR3
import Derived.Test.YthmhklmkgkfcpaaGreatDoorR5
import Derived.Test.YthmhklmkgkfcpaaGreatDoorR10
import Derived.Test.YthmhklmkgkfcpaaGreatDoorR11
set_option linter.unusedVariables false
set_option linter.unusedSimpArgs false
set_option maxHeartbeats 8000000
set_option maxRecDepth 100000
namespace Go.Proofs.YthmhklmkgkfcpaaGreatDoor
open Go.RowKit
theorem Tryz.info83:(Tryz.prog.info? 3).map (fun i=>(i.zero,i.size,i.bytes))=some (some (.int .i64 0),1,8):=by kernel_rfl
theorem ae0:ar0 Tryz.prog 34 3:=ar0.mk' Tryz.underlying34 Tryz.info83 (by decide) rfl
structure Way (K j q:Nat):Prop where
 node:∀ i,i≤K - j→0≤((nd (j+i) (q / 2 ^ i):Nat):Int)∧((nd (j+i) (q / 2 ^ i):Nat):Int)≤2046∧lev (nd (j+i) (q / 2 ^ i))=j+i
 root:∀ i,i≤K - j→(((nd (j+i) (q / 2 ^ i):Nat):Int)=((2 ^ K:Nat):Int) - 1↔i=K - j)
 up:∀ i,i<K - j→paE ((nd (j+i) (q / 2 ^ i):Nat):Int) ((2 ^ K:Nat):Int)=0∧paV ((nd (j+i) (q / 2 ^ i):Nat):Int) ((2 ^ K:Nat):Int)=((nd (j+(i+1)) (q / 2 ^ (i+1)):Nat):Int)∧siV ((nd (j+i) (q / 2 ^ i):Nat):Int) ((2 ^ K:Nat):Int)=((nd (j+i) (sq (q / 2 ^ i)):Nat):Int)
theorem way {K j q:Nat}(hK:K≤10)(hj:j≤K)(hq:q<2 ^ (K - j)):Way K j q:=by
 have hl:∀ i,i≤K - j→q / 2 ^ i<2 ^ (K - (j+i)):=fun i hi=>afi hq hi
 refine ⟨fun i hi=>?_,fun i hi=>?_,fun i hi=>?_⟩
 ·obtain ⟨h1,h2,h3⟩:=abn hK (j:=j+i) (by omega) (hl i hi)
  exact ⟨by omega,by omega,adM _ _ (by omega)⟩
 ·have h1:=ahN (hl i hi) (show j+i≤K by omega)
  have h2:=aaC K;generalize nd (j+i) (q / 2 ^ i)=X at *;generalize 2 ^ K=N at *;constructor
  ·intro h3
   have:=h1.1 (by omega);omega
  ·intro h3
   have:=h1.2 (by omega);omega
 ·obtain ⟨e1,e2,e3⟩:=ap8 (K:=K) (j:=j+i) (q:=q / 2 ^ i) hK (by omega) (hl i (by omega))
  refine ⟨e1,?_,e3⟩;rw[e2,agp];rfl
theorem agV (K j q:Nat)(w:World)(hK:K≤10)(hj:j≤K)(hq:q<2 ^ (K - j)):
  Calls Tryz.prog 48 #[.int .i64 ((nd j q:Nat):Int),.int .i64 ((2 ^ K:Nat):Int)] w fun e w'=>(∃ v,e=.returned (.tuple #[v,.int .i64 0])∧ON 3 w' w.heap.size v (aag K j q))∧Kp w w':=by
 have S:=ae0;have hin:=(adN ((nd j q:Nat):Int) ((2 ^ K:Nat):Int)).2 ⟨K,j,q,hK,rfl,rfl,hj,hq⟩;have hb:=acd hK;have hb2:=aaC K;have hn2:-9223372036854775808≤((2 ^ K:Nat):Int)∧((2 ^ K:Nat):Int)≤9223372036854775807:=by omega
 have HN:=Lib.hid (adj ((nd j q:Nat):Int) ((2 ^ K:Nat):Int) w hn2);rw[hin] at HN;obtain ⟨w1,w2,w3⟩:=way hK hj hq;have HT:=Lib.hid (ahO K j q);have HL:=Lib.hid (acc K j q);have HP:Hid (∀ i W,i<K - j→Calls Tryz.prog 80 #[.int .i64 ((nd (j+i) (q / 2 ^ i):Nat):Int),.int .i64 ((2 ^ K:Nat):Int)] W fun e w'=>e=.returned (.tuple #[.int .i64 ((nd (j+(i+1)) (q / 2 ^ (i+1)):Nat):Int),.int .i64 0])∧W=w'):=fun i W hi=>by
  have:=aiI ((nd (j+i) (q / 2 ^ i):Nat):Int) ((2 ^ K:Nat):Int) W hn2;rwa [(w3 i hi).1,(w3 i hi).2.1] at this
 have i1:IntKind.i64.wrap (((2 ^ K:Nat):Int) - 1)=((2 ^ K:Nat):Int) - 1:=IntWalk.i64_in _ (by omega);obtain ⟨f,hf⟩:∃ f:Nat→Nat,f=fun i=>nd (j+i) (q / 2 ^ i):=⟨_,rfl⟩
 have hfi:∀ i,nd (j+i) (q / 2 ^ i)=f i:=fun i=>by rw[hf]
 have hf0:nd j q=f 0:=by rw[hf];simp
 have HT2:Hid (∀ i,i<K - j→(aag K j q).take (i+1)=(aag K j q).take i++[f (i+1)]):=fun i hi=>by
  rw[HT.out i hi];rw[hf];simp only[];congr 3;omega
 have HE:Hid ((aag K j q).take (K - j)=aag K j q):=by unfold Hid;rw[List.take_of_length_le (by rw[HL.out];omega)]
 generalize aag K j q=PL at *;simp only[hfi] at *;rw[hf0] at HN ⊢;have W1:=Lib.hid w1;have W2:=Lib.hid w2;have hdk:K - j≤10:=by omega
 have HJ:Hid (∀ i,i≤K - j→lev (f i)=j+i):=fun i hi=>(w1 i hi).2.2
 generalize ((2 ^ K:Nat):Int)=N at *;clear hin hb hb2 hn2 w1 w2 w3 HT hf hfi hf0 hq;go_enter Tryz.func48,Tryz.ntmps48;go_wp2_with fail;refine HN.out.mono ?_;rintro _ _ ⟨rfl,rfl⟩;clear HN;go_wp2_with fail;go_loopw[0,7] (fun x v wr=>∃ i:Nat,i≤K - j∧x=.int .i64 ((f i:Nat):Int)∧ON 3 wr w.heap.size v (PL.take i)∧Kp w wr) (fun x _ _=>(20 - lev (intOf x).toNat))
 case atStart=>exact ⟨0,Nat.zero_le _,rfl,ON.nil _ _ _,Kp.refl _⟩
 case round=>
  obtain ⟨i,hi,rfl,ho,hk⟩:=hrel;have hroot:=W2.out i hi;obtain ⟨b1,b2,b3⟩:=W1.out i hi;by_cases hlt:i<K - j
  ·have hne:¬((f i:Nat):Int)=N - 1:=fun h=>by have:=hroot.1 h;omega
   have hbf:(((f i:Nat):Int)==N - 1)=false:=beq_eq_false_iff_ne.2 hne;have HP1:=Lib.hid (HP.out i wr hlt);have HTI:=Lib.hid (HT2.out i hlt);have HLV:=Lib.hid (And.intro (HJ.out i hi) (HJ.out (i+1) (by omega)));have hsz:=hk.size;have HLN:Hid ((PL.take i).length≤1000000):=by unfold Hid;rw[List.length_take,HL.out];omega
   generalize PL.take i=L at *;clear W1 W2 HP HT2 HE HJ hroot b1 b2 b3;go_wp2_with fail;refine HP1.out.mono ?_;rintro _ _ ⟨rfl,rfl⟩;go_wp2_with (at_builtin;refine adP (o:=⟨some 28,_,_,_,_,_⟩) S rfl _ _ rfl w.heap.size _ L rfl (ho.kp ((Kp.refl wr).alloc _)) _ _ rfl (ON.lit1 wr 3 (f (i+1))) HLN.out (by simp;omega) ?_;intro v4 w4 o4 g4;have k4:Kp w w4:=Kp.grown (hk.alloc _) g4 ho.own_ge)
   go_roundw
   case rel=>exact ⟨i+1,by omega,rfl,by rw[HTI.out];exact o4,k4⟩
   case measure=>have:=HLV.out;simp[intOf];omega
  ·obtain rfl:i=K - j:=by omega
   have heq:((f (K - j):Nat):Int)=N - 1:=hroot.2 rfl;rw[HE.out] at ho;have R:=Lib.hid ho;obtain ⟨av,nv,cv,rfl⟩:=ho.rn.sl;have KK:=Lib.hid hk;clear W1 W2 HP HT2 HE HJ hroot b1 b2 b3 ho hk;go_wp2_with fail;go_ret2;exact ⟨⟨_,rfl,R.out⟩,KK.out⟩
theorem akN (x n:Int)(w:World)(hn2:-9223372036854775808≤n∧n≤9223372036854775807):
  Calls Tryz.prog 48 #[.int .i64 x,.int .i64 n] w fun e w'=>(∃ v,e=.returned (.tuple #[v,.int .i64 (arE x n)])∧ON 3 w' w.heap.size v (ang x n))∧Kp w w':=by
 by_cases h:inB x n=true
 ·obtain ⟨K,j,q,hK,rfl,rfl,hj,hq⟩:=(adN x n).1 h
  obtain ⟨e1,e2,e3⟩:=ap9 hK hj hq;rw[e1,e2];exact agV K j q w hK hj hq
 ·obtain ⟨e1,e2,e3⟩:=ar_no h
  have h2:inB x n=false:=by rw[Bool.eq_false_iff];exact h
  have HN:=Lib.hid (adj x n w hn2);rw[h2] at HN;rw[e1,e2];clear h h2 e1 e2 e3 hn2;go_enter Tryz.func48,Tryz.ntmps48;go_wp2_with fail;refine HN.out.mono ?_;rintro _ _ ⟨rfl,rfl⟩;go_wp2_with fail;go_ret2;exact ⟨⟨_,rfl,ON.nil _ _ _⟩,Kp.refl _⟩
theorem aod {j q i:Nat}(hj:j≤10)(hi:i≤j)(hq:q<2 ^ (10 - j)):2 ^ (j - i)*q+2 ^ (j - i) - 1<2 ^ (10 - i):=by
 have e:2 ^ (10 - i)=2 ^ (j - i)*2 ^ (10 - j):=by rw[← Nat.pow_add];congr 1;omega
 have h1:2 ^ (j - i)*(q+1)≤2 ^ (10 - i):=by rw[e];exact Nat.mul_le_mul_left _ hq
 rw[Nat.mul_add,Nat.mul_one] at h1;have:=aaC (j - i);omega
theorem down {j q:Nat}(hj:j≤10)(hq:q<2 ^ (10 - j))(f g:Nat→Nat)(hf:f=fun i=>nd i (2 ^ (j - i)*q))(hg:g=fun i=>nd i (2 ^ (j - i)*q+2 ^ (j - i) - 1)):
  (∀ i,i≤j→levV ((f i:Nat):Int)=(i:Int)∧lev (f i)=i∧levV ((g i:Nat):Int)=(i:Int)∧lev (g i)=i) ∧
  (∀ i,i+1≤j→chE ((f (i+1):Nat):Int)=0∧lefV ((f (i+1):Nat):Int)=((f i:Nat):Int)∧chE ((g (i+1):Nat):Int)=0∧rigV ((g (i+1):Nat):Int)=((g i:Nat):Int)) ∧
  f j=nd j q∧g j=nd j q∧((f 0:Nat):Int).tdiv 2=((2 ^ j*q:Nat):Int)∧((g 0:Nat):Int).tdiv 2=((2 ^ j*q+2 ^ j - 1:Nat):Int):=by
 subst hf hg;have hb:∀ i,i≤j→2 ^ (j - i)*q<2 ^ (10 - i)∧2 ^ (j - i)*q+2 ^ (j - i) - 1<2 ^ (10 - i):=fun i hi=>by
  have h1:=aod hj hi hq;have h2:=aaC (j - i);omega
 refine ⟨fun i hi=>?_,fun i hi=>?_,?_,?_,?_,?_⟩
 ·obtain ⟨h1,h2⟩:=hb i hi
  exact ⟨abF (by omega) h1,adM _ _ (by omega),abF (by omega) h2,adM _ _ (by omega)⟩
 ·obtain ⟨h1,h2⟩:=hb (i+1) hi
  obtain ⟨e1,e2,_⟩:=aeg (j:=i) (q:=2 ^ (j - (i+1))*q) (by omega) h1;obtain ⟨d1,_,d3⟩:=aeg (j:=i) (q:=2 ^ (j - (i+1))*q+2 ^ (j - (i+1)) - 1) (by omega) h2;have e:j - i=(j - (i+1))+1:=by omega
  have hp:=aaC (j - (i+1));refine ⟨e1,?_,d1,?_⟩
  ·rw[e2]
   simp only[];rw[e,aam,Nat.mul_assoc]
  ·rw[d3]
   simp only[];rw[e,aam,Nat.mul_assoc];congr 2
   omega
 ·simp
 ·simp
 ·simp only[Nat.sub_zero]
  rw[abE,Int.tdiv_eq_ediv_of_nonneg (by omega)];omega
 ·simp only[Nat.sub_zero]
  rw[abE,Int.tdiv_eq_ediv_of_nonneg (by omega)];omega
theorem aiJ (j q:Nat)(w:World)(hj:j≤10)(hq:q<2 ^ (10 - j)):
  Calls Tryz.prog 79 #[.int .i64 ((nd j q:Nat):Int)] w fun e w'=>e=.returned (.tuple #[.int .i64 ((2 ^ j*q:Nat):Int),.int .i64 ((2 ^ j*q+2 ^ j - 1:Nat):Int)])∧w=w':=by
 obtain ⟨b0,b1⟩:=(aaJ ((nd j q:Nat):Int)).2 ⟨j,q,rfl,hj,hq⟩;obtain ⟨f,hf⟩:∃ f:Nat→Nat,f=fun i=>nd i (2 ^ (j - i)*q):=⟨_,rfl⟩
 obtain ⟨g,hg⟩:∃ g:Nat→Nat,g=fun i=>nd i (2 ^ (j - i)*q+2 ^ (j - i) - 1):=⟨_,rfl⟩
 obtain ⟨d1,d2,d3,d4,d5,d6⟩:=down hj hq f g hf hg;have hl:2 ^ j*q+2 ^ j - 1<2 ^ (10 - 0):=by have:=aod hj (Nat.zero_le j) hq;simpa using this
 have D1:=Lib.hid d1;have D2:=Lib.hid d2;have HLV:Hid (∀ x,Calls Tryz.prog 82 #[.int .i64 x] w fun e w'=>e=.returned (.int .i64 (levV x))∧w=w'):=fun x=>adO x w
 have HLF:Hid (∀ x,Calls Tryz.prog 34 #[.int .i64 x] w fun e w'=>e=.returned (.tuple #[.int .i64 (lefV x),.int .i64 (chE x)])∧w=w'):=fun x=>agU x w
 have HRT:Hid (∀ x,Calls Tryz.prog 35 #[.int .i64 x] w fun e w'=>e=.returned (.tuple #[.int .i64 (rigV x),.int .i64 (chE x)])∧w=w'):=fun x=>afM x w
 have hlo:IntKind.i64.wrap ((2 ^ j*q:Nat):Int)=((2 ^ j*q:Nat):Int):=IntWalk.i64_in _ (by have:=aaC j;omega);have hhi:IntKind.i64.wrap ((2 ^ j*q+2 ^ j - 1:Nat):Int)=((2 ^ j*q+2 ^ j - 1:Nat):Int):=IntWalk.i64_in _ (by omega);have D5:=Lib.hid (And.intro d5 d6);have D3:=Lib.hid (And.intro d3 d4);generalize ((2 ^ j*q:Nat):Int)=LO at *;generalize ((2 ^ j*q+2 ^ j - 1:Nat):Int)=HI at *;generalize nd j q=X at *;clear d1 d2 d3 d4 d5 d6 hf hg hl hq;go_enter Tryz.func79,Tryz.ntmps79;go_wp2_with fail;go_loop [4] (fun a=>∃ i:Nat,i≤j∧a=.int .i64 ((f i:Nat):Int)) (fun a=>lev (intOf a).toNat)
 case atStart=>exact ⟨j,Nat.le_refl _,by rw[D3.out.1]⟩
 case round=>
  obtain ⟨i,hi,rfl⟩:=hrel;have HL1:=HLV.out ((f i:Nat):Int);rw[(D1.out i hi).1] at HL1;have HL2:=Lib.hid HL1;clear HL1;cases i with
  | succ i=>
   obtain ⟨c1,c2,_,_⟩:=D2.out i hi;have HF1:=HLF.out ((f (i+1):Nat):Int);rw[c1,c2] at HF1;have HF2:=Lib.hid HF1;have hlv:=Lib.hid (And.intro (D1.out (i+1) hi).2.1 (D1.out i (by omega)).2.1);have hp:0<((i+1:Nat):Int):=by omega
   generalize ((i+1:Nat):Int)=I at *;clear HF1 c1 c2 D1 D2 HLV HLF HRT D5 D3;go_wp2_with fail;refine HL2.out.mono ?_;rintro _ _ ⟨rfl,rfl⟩;go_wp2_with fail;refine HF2.out.mono ?_;rintro _ _ ⟨rfl,rfl⟩;go_wp2_with fail;go_round
   case rel=>exact ⟨i,by omega,rfl⟩
   case measure=>have:=hlv.out;simp[intOf];omega
  | zero=>
   have i1:=D5.out.1;go_wp2_with fail;refine HL2.out.mono ?_;rintro _ _ ⟨rfl,rfl⟩;clear HL2 hi HLF;go_wp2_with fail;go_loop [5] (fun b=>∃ i:Nat,i≤j∧b=.int .i64 ((g i:Nat):Int)) (fun b=>lev (intOf b).toNat)
   case atStart=>exact ⟨j,Nat.le_refl _,by rw[D3.out.2]⟩
   case round=>
    obtain ⟨i,hi,rfl⟩:=hrel;have HL1:=HLV.out ((g i:Nat):Int);rw[(D1.out i hi).2.2.1] at HL1;have HL2:=Lib.hid HL1;clear HL1;cases i with
    | succ i=>
     obtain ⟨_,_,c1,c2⟩:=D2.out i hi;have HF1:=HRT.out ((g (i+1):Nat):Int);rw[c1,c2] at HF1;have HF2:=Lib.hid HF1;have hlv:=Lib.hid (And.intro (D1.out (i+1) hi).2.2.2 (D1.out i (by omega)).2.2.2);have hp:0<((i+1:Nat):Int):=by omega
     generalize ((i+1:Nat):Int)=I at *;clear HF1 c1 c2 D1 D2 HLV HRT D5 D3;go_wp2_with fail;refine HL2.out.mono ?_;rintro _ _ ⟨rfl,rfl⟩;go_wp2_with fail;refine HF2.out.mono ?_;rintro _ _ ⟨rfl,rfl⟩;go_wp2_with fail;go_round
     case rel=>exact ⟨i,by omega,rfl⟩
     case measure=>have:=hlv.out;simp[intOf];omega
    | zero=>
     have i2:=D5.out.2;clear D2 D1 HLV HRT D3 D5;go_wp2_with fail;refine HL2.out.mono ?_;rintro _ _ ⟨rfl,rfl⟩;go_wp2_with fail;go_ret2;exact ⟨rfl,rfl⟩
theorem aiK (x:Int)(w:World):
  Calls Tryz.prog 79 #[.int .i64 x] w fun e w'=>e=.returned (.tuple #[.int .i64 (loV x),.int .i64 (hiV x)])∧w=w':=by
 by_cases h:okN x
 ·obtain ⟨j,q,rfl,hj,hq⟩:=(aaJ x).1 h
  obtain ⟨e1,e2⟩:=anh hj hq;rw[e1,e2];exact aiJ j q w hj hq
 ·obtain ⟨e1,e2⟩:=arn h
  rw[e1,e2];unfold okN at h;by_cases h0:x<0
  ·clear h e1 e2
   go_enter Tryz.func79,Tryz.ntmps79;go_wp2_with fail;go_ret2;exact ⟨rfl,rfl⟩
  ·have h1:2046<x:=by omega
   clear h e1 e2;go_enter Tryz.func79,Tryz.ntmps79;go_wp2_with fail;go_ret2;exact ⟨rfl,rfl⟩
def inL (l:List Nat)(n:Int):Bool:=l.any fun x=>decide ((x:Int)=n)
theorem aoe (u:Value)(l:List Nat)(n:Int)(w:World)(hu:RN w u l):
  Calls Tryz.prog 49 #[u,.int .i64 n] w fun e w'=>e=.returned (.bool (inL l n))∧w=w':=by
 obtain ⟨a1,c1,rfl,p1,s1⟩:=hu.shape;unfold maxLen at s1;have HYES:Hid (∀ k,k<l.length→((l.getD k 0:Nat):Int)=n→inL l n=true):=fun k hk he=>by
  unfold inL;rw[List.any_eq_true];rw[List.getD_eq_getElem?_getD,List.getElem?_eq_getElem hk] at he;exact ⟨l[k],List.getElem_mem hk,decide_eq_true he⟩
 have HNO:Hid ((∀ k,k<l.length→((l.getD k 0:Nat):Int)≠n)→inL l n=false):=fun h=>by
  rw[Bool.eq_false_iff];intro h2;unfold inL at h2;rw[List.any_eq_true] at h2;obtain ⟨x,hx,he⟩:=h2;obtain ⟨k,hk,rfl⟩:=List.getElem_of_mem hx;refine h k hk ?_;rw[List.getD_eq_getElem?_getD,List.getElem?_eq_getElem hk];exact of_decide_eq_true he
 generalize inL l n=b at *;have HU:=Lib.hid hu;obtain ⟨N,hN⟩:∃ N,l.length=N:=⟨_,rfl⟩;rw[hN] at HU p1 HYES HNO ⊢;clear hu hN;go_enter Tryz.func49,Tryz.ntmps49;go_wp2_with fail;go_loop [5] (fun i=>∃ k:Nat,k≤N∧i=.int .i64 (k:Int)∧(∀ t,t<k→((l.getD t 0:Nat):Int)≠n)) (fun i=>(N - (intOf i).toNat))
 case atStart=>exact ⟨0,Nat.zero_le _,rfl,fun t h=>by omega⟩
 case round=>
  obtain ⟨k,hk,rfl,hpre⟩:=hrel;by_cases hlt:k<N
  ·obtain ⟨g1,o1,rfl,_,hc1⟩:=HU.out.at k hlt
   have h1:=hc1 k hlt;have HY2:=HYES.out k hlt;have HPRE:Hid (((l.getD k 0:Nat):Int)≠n→∀ t,t<k+1→((l.getD t 0:Nat):Int)≠n):=fun he t ht=>by
    rcases Nat.lt_or_eq_of_le (Nat.lt_succ_iff.1 ht) with h3 | h3
    ·exact hpre t h3
    ·rw[h3];exact he
   have i1:IntKind.i64.wrap ((k:Int)+1)=(k:Int)+1:=IntWalk.i64_in _ (by omega);clear hc1 HYES HNO hpre;generalize ((l.getD k 0:Nat):Int)=X at *;by_cases hxy:X=n
   ·have HB:=Lib.hid (HY2 hxy)
    subst hxy;clear HY2 HPRE;go_wp2_with fail;go_ret;exact ⟨by rw[HB.out] <;> rfl,rfl⟩
   ·have HP:=Lib.hid (HPRE.out hxy)
    have hne2:(X==n)=false:=beq_eq_false_iff_ne.2 hxy;clear HY2 HPRE;go_wp2_with fail;go_round
    case rel=>exact ⟨k+1,by omega,by go_num,HP.out⟩
    case measure=>simp[intOf];omega
  ·obtain rfl:k=N:=by omega
   have HB:=Lib.hid (HNO.out hpre);clear HYES HNO hpre;go_wp2_with fail;go_ret;exact ⟨by rw[HB.out] <;> rfl,rfl⟩
theorem akO {t:List Nod}(h:t.length≤100000):IntKind.i64.wrap ((t.length:Int)+1)=(t.length:Int)+1∧((t.length:Int)+1).tdiv 2=((lvs t:Nat):Int):=by
 refine ⟨IntWalk.i64_in _ (by omega),?_⟩;unfold lvs;rw[Int.tdiv_eq_ediv_of_nonneg (by omega)];omega
theorem aiL {t:List Nod}{k:Nat}(h:k<lvs t):2*k<t.length:=by unfold lvs at h;omega
theorem aez {t:List Nod}(h:t.length≤100000):(lvs t:Int)≤100000:=by
 unfold lvs;omega
theorem acz (u:Value)(t:List Nod)(w:World)(hu:NL w u t)(hl:t.length≤100000):
  Calls Tryz.prog 31 #[u] w fun e w'=>e=.returned (.int .i64 ((lvs t:Nat):Int))∧w=w':=by
 obtain ⟨a,c,rfl,h1,h2⟩:=hu.shape;obtain ⟨i1,i2⟩:=akO (t:=t) hl;have i3:IntKind.i64.wrap ((lvs t:Nat):Int)=((lvs t:Nat):Int):=IntWalk.i64_in _ (by have:=aez (t:=t) hl;omega);go_enter Tryz.func31,Tryz.ntmps31;go_wp2_with fail;go_ret;exact ⟨rfl,rfl⟩
theorem aeA (name:Int)(v:Value)(pub:List UInt8)(w:World)(hv:Rd w v pub):
  Calls Tryz.prog 84 #[.int .i64 name,v] w fun e w'=>e=.returned (.bool (decide (mayP name pub)))∧w=w':=by
 obtain ⟨a,c,rfl,h1,h2⟩:=hv.shape;by_cases n0:0≤name
 ·by_cases n1:name≤65535
  ·by_cases n2:pub.length=32
   ·have e:decide (mayP name pub)=true:=decide_eq_true ⟨n0,n1,n2⟩
    rw[e];rw[n2] at h1 ⊢;clear e hv n2;go_enter Tryz.func84,Tryz.ntmps84;go_wp2_with fail;go_ret;exact ⟨rfl,rfl⟩
   ·have e:decide (mayP name pub)=false:=decide_eq_false fun h=>n2 h.2.2
    have hb2:((pub.length:Int)==32)=false:=beq_eq_false_iff_ne.2 (by omega);have hb3:¬(pub.length:Int)=32:=by omega
    rw[e];clear e hv n2;go_enter Tryz.func84,Tryz.ntmps84;go_wp2_with fail;go_ret;exact ⟨rfl,rfl⟩
  ·have e:decide (mayP name pub)=false:=decide_eq_false fun h=>n1 h.2.1
   rw[e];clear e hv;go_enter Tryz.func84,Tryz.ntmps84;go_wp2_with fail;go_ret;exact ⟨rfl,rfl⟩
 ·have e:decide (mayP name pub)=false:=decide_eq_false fun h=>n0 h.1
  rw[e];clear e hv;go_enter Tryz.func84,Tryz.ntmps84;go_wp2_with fail;go_ret;exact ⟨rfl,rfl⟩
theorem amn {t:List Nod}{name:Int}{k:Nat}(hk:k<lvs t)(h:(ats t (2*k)).kind=1)(hn:(ats t (2*k)).name=name)(hpre:∀ j,j<k→¬((ats t (2*j)).kind=1∧(ats t (2*j)).name=name)):
  al3 t name=(k:Int)∧agv t name=true:=by
 have e:aqt t name=k:=adH (by omega) (fun _=>decide_eq_true ⟨h,hn⟩) (fun j hj=>decide_eq_false (hpre j hj));have e2:agv t name=true:=by unfold agv;rw[e];exact decide_eq_true hk
 exact ⟨by unfold al3;rw[e2,e];rfl,e2⟩
theorem apu {t:List Nod}{name:Int}(h:∀ j,j<lvs t→¬((ats t (2*j)).kind=1∧(ats t (2*j)).name=name)):al3 t name=0∧agv t name=false:=by
 have e:=anv h;exact ⟨by unfold al3;rw[e];rfl,e⟩
theorem akP (u:Value)(t:List Nod)(name:Int)(w:World)(hu:NL w u t)(hl:t.length≤100000):
  Calls Tryz.prog 85 #[u,.int .i64 name] w fun e w'=>e=.returned (.tuple #[.int .i64 (al3 t name),.bool (agv t name)])∧w=w':=by
 have HL:=Lib.hid (acz u t w hu hl);obtain ⟨a,c,rfl,p1,s1⟩:=hu.shape;have hlm:=aez (t:=t) hl;have HU:=Lib.hid hu;have HY:=Lib.hid (fun k hk h hn hpre=>amn (t:=t) (name:=name) (k:=k) hk h hn hpre);have HN:=Lib.hid (fun h=>apu (t:=t) (name:=name) h);have H2:=Lib.hid (fun k h=>aiL (t:=t) (k:=k) h);generalize al3 t name=FV at *;generalize agv t name=FB at *;generalize lvs t=L at *;obtain ⟨N,hN⟩:∃ N,t.length=N:=⟨_,rfl⟩;rw[hN] at HU p1 H2 HL hl ⊢;clear hu hN;go_enter Tryz.func85,Tryz.ntmps85;go_wp2_with fail;go_loop [6] (fun i=>∃ k:Nat,k≤L∧i=.int .i64 (k:Int)∧(∀ j,j<k→¬((ats t (2*j)).kind=1∧(ats t (2*j)).name=name))) (fun i=>(L - (intOf i).toNat))
 case atStart=>exact ⟨0,Nat.zero_le _,rfl,fun t h=>by omega⟩
 case round=>
  obtain ⟨k,hk,rfl,hpre⟩:=hrel;by_cases hlt:k<L
  ·have hk2:=H2.out k hlt
   obtain ⟨b,off,rfl,hb,hc⟩:=HU.out.at (2*k) hk2;obtain ⟨p,q,h,hn⟩:=hc (2*k) hk2;have c1:=hn.kind;have c2:=hn.name;have HY2:=HY.out k hlt;have HPRE:Hid (¬((ats t (2*k)).kind=1∧(ats t (2*k)).name=name)→∀ j,j<k+1→¬((ats t (2*j)).kind=1∧(ats t (2*j)).name=name)):=fun he j hj=>by
    rcases Nat.lt_or_eq_of_le (Nat.lt_succ_iff.1 hj) with h3 | h3
    ·exact hpre j h3
    ·rw[h3];exact he
   have HPR:=Lib.hid hpre;have i1:IntKind.i64.wrap ((k:Int)+1)=(k:Int)+1:=IntWalk.i64_in _ (by omega);have i2:IntKind.i64.wrap (2*(k:Int))=((2*k:Nat):Int):=by rw[IntWalk.i64_in _ (by omega)];omega
   have i3:((2*k:Nat):Int)<(N:Int):=by omega
   clear hc hn HN hpre HY hk2 hb;generalize (ats t (2*k)).kind=X at *;generalize (ats t (2*k)).name=Y at *;generalize 2*k=K2 at *;by_cases h1:X=1
   ·by_cases h2:Y=name
    ·obtain ⟨e1,e2⟩:=HY2 h1 h2 HPR.out
     have HB:=Lib.hid (And.intro e1 e2);subst h1;subst h2;clear HY2 HPRE HPR e1 e2;go_wp2_with fail;refine HL.out.mono ?_;rintro _ _ ⟨rfl,rfl⟩;go_wp2_with fail;go_ret2;exact ⟨by rw[HB.out.1,HB.out.2] <;> rfl,rfl⟩
    ·have HP:=Lib.hid (HPRE.out fun h=>h2 h.2)
     have hne2:(Y==name)=false:=beq_eq_false_iff_ne.2 h2;subst h1;clear HY2 HPRE HPR;go_wp2_with fail;refine HL.out.mono ?_;rintro _ _ ⟨rfl,rfl⟩;go_wp2_with fail;go_round
     case rel=>exact ⟨k+1,by omega,by go_num,HP.out⟩
     case measure=>simp[intOf];omega
   ·have HP:=Lib.hid (HPRE.out fun h=>h1 h.1)
    have hne2:(X==1)=false:=beq_eq_false_iff_ne.2 h1;clear HY2 HPRE HPR;go_wp2_with fail;refine HL.out.mono ?_;rintro _ _ ⟨rfl,rfl⟩;go_wp2_with fail;go_round
    case rel=>exact ⟨k+1,by omega,by go_num,HP.out⟩
    case measure=>simp[intOf];omega
  ·obtain rfl:k=L:=by omega
   obtain ⟨e1,e2⟩:=HN.out hpre;have HB:=Lib.hid (And.intro e1 e2);clear HN hpre HY H2 e1 e2;go_wp2_with fail;refine HL.out.mono ?_;rintro _ _ ⟨rfl,rfl⟩;go_wp2_with fail;go_ret2;exact ⟨by rw[HB.out.1,HB.out.2] <;> rfl,rfl⟩
theorem Tryz.infoNode:(Tryz.prog.info? 81).map (fun i=>(i.zero,i.size,i.bytes))=some (some (.agg #[.int .i64 0,.int .i64 0,.slice none 0 0,.slice none 0 0,.slice none 0 0]),5,88):=by kernel_rfl
theorem aof:S5 Tryz.prog 22 81:=S5.mk' Tryz.underlying22 Tryz.infoNode (by decide) rfl
def newE (name:Int)(pub:List UInt8):Int:=if mayP name pub then 0 else 1
def newV (name:Int)(pub:List UInt8):List Nod:=if mayP name pub then [aah name pub] else []
theorem NL.lit1 (w:World)(e:TypeId)(n:Nod)(p u h:Value)(H:NIn w n p u h):NL (w.alloc (.cells #[.int .i64 n.kind,.int .i64 n.name,p,u,h] e)) (.slice (some ⟨w.heap.size,0,none⟩) 1 1) [n]:=by
 refine ⟨_,1,rfl,Nat.le_refl _,by unfold maxLen;omega,fun h=>(by cases h),fun _=>⟨w.heap.size,0,rfl,by simp,fun i hi=>?_⟩⟩;have:i=0:=by simpa using hi
 subst this;refine ⟨p,u,h,fun j v hj=>?_,H.kp ((Kp.refl _).alloc _)⟩;rw[cell_of_row _ _ _ _ _ _ (heap_alloc_new w _)];simp only[Nat.zero_mul,Nat.zero_add];exact (show (nodC n p u h).toArray[j]?=some v by rw[List.getElem?_toArray];exact hj)
theorem akQ (name:Int)(v:Value)(pub:List UInt8)(w:World)(hv:Rd w v pub):
  Calls Tryz.prog 37 #[.int .i64 name,v] w fun e w'=>(∃ r,e=.returned (.tuple #[r,.int .i64 (newE name pub)])∧NL w' r (newV name pub))∧Kp w w':=by
 have HM:=Lib.hid (aeA name v pub w hv);by_cases h:mayP name pub
 ·rw[decide_eq_true h] at HM
  rw[show newE name pub=0 from if_pos h,show newV name pub=[aah name pub] from if_pos h];have HN:=Lib.hid (NL.lit1 w 81 (aah name pub) v (.slice none 0 0) (.slice none 0 0) ⟨hv,RI.nil w,aaQ w⟩);obtain ⟨a,c,rfl,h1,h2⟩:=hv.shape;go_enter Tryz.func37,Tryz.ntmps37;go_wp2_with fail;refine HM.out.mono ?_;rintro _ _ ⟨rfl,rfl⟩;go_wp2_with fail;go_ret2;exact ⟨⟨_,rfl,HN.out⟩,(Kp.refl _).alloc _⟩
 ·rw[decide_eq_false h] at HM
  rw[show newE name pub=1 from if_neg h,show newV name pub=[] from if_neg h];clear h;go_enter Tryz.func37,Tryz.ntmps37;go_wp2_with fail;refine HM.out.mono ?_;rintro _ _ ⟨rfl,rfl⟩;go_wp2_with fail;go_ret2;exact ⟨⟨_,rfl,NL.nil _⟩,Kp.refl _⟩
theorem aqZ {t:List Nod}{x:Nat}(hk:(ats t x).kind=0):okP t x↔(ats t x).name=0∧(ats t x).pub.length=0∧(ats t x).un.length=0∧(ats t x).hash.length=0:=by
 constructor
 ·intro h
  rw[al1 h hk];exact ⟨rfl,rfl,rfl,rfl⟩
 ·rintro ⟨h1,h2,h3,h4⟩
  refine .inl ((Nod.eq_iff _ _).2 ⟨hk,h1,List.eq_nil_of_length_eq_zero h2,List.eq_nil_of_length_eq_zero h3,List.eq_nil_of_length_eq_zero h4⟩)
theorem apw {t:List Nod}{x:Nat}(hk:(ats t x).kind≠0):okP t x↔mayP (ats t x).name (ats t x).pub∧((ats t x).hash.length=0∨(ats t x).hash.length=32)∧(ats t x).kind=1+(x:Int) % 2 ∧
  ((ats t x).kind=1→(ats t x).un.length=0)∧((ats t x).kind≠1→unP t (loV x) (hiV x) (ats t x).un∧(ats t x).name=0):=by
 constructor
 ·rintro (h | ⟨h1,h2,h3,h4,h5⟩)
  ·rw[h] at hk;exact absurd rfl hk
  ·exact ⟨h2,h3,h1,fun h=>by rw[h4 h];rfl,fun h=>(h5 (by omega)).symm⟩
 ·rintro ⟨h2,h3,h1,h4,h5⟩
  exact .inr ⟨h1,h2,h3,fun h=>List.eq_nil_of_length_eq_zero (h4 h),fun h=>(h5 (by omega)).symm⟩
attribute [local go_sem] Oper.semAt_some
theorem aqf (x n:Int)(w:World):
  Calls Tryz.prog 125 #[.int .i64 x,.int .i64 n] w fun e w'=>e=.returned (.func (.func 162) #[] #[.pointer (some ⟨w.heap.size,0,none⟩),.pointer (some ⟨w.heap.size+1,0,none⟩)])∧(w.alloc (.cells #[.int .i64 x] 3)).alloc (.cells #[.int .i64 n] 3)=w':=by
 go_enter Tryz.func125,Tryz.ntmps125;go_wp2;go_ret;exact ⟨rfl,rfl⟩
theorem apM (K j q b1 b2:Nat)(w:World)(hK:K≤10)(hj:j≤K)(hq:q<2 ^ (K - j))(h1:w.cell? ⟨b1,0,none⟩=some (.int .i64 ((nd j q:Nat):Int)))(h2:w.cell? ⟨b2,0,none⟩=some (.int .i64 ((2 ^ K:Nat):Int)))(hTab:Tab w)(f:Nat→Nat)(hf:f=fun i=>nd (j+i) (q / 2 ^ i)):
  alO Tryz.prog 162 #[.pointer (some ⟨b1,0,none⟩),.pointer (some ⟨b2,0,none⟩)] (fun i v _ _=>v=#[.int .i64 ((f i:Nat):Int),.int .i64 ((f (i+1):Nat):Int)]) (K - j) (fun k=>k=b1∨k=b2∨k=1) w:=by
 intro l J Jx W hh hl1 hl2 hJ hJx hY h0;have c1:=hh.cell h1 (.inl rfl);have c2:=hh.cell h2 (.inr (.inl rfl));have hT:=hTab.held hh (.inr (.inr rfl));have HJ:=Lib.hid hJ;have HY:=Lib.hid hY;obtain ⟨w1,w2,w3⟩:=way hK hj hq;have HP:Hid (∀ i W,i<K - j→Tab W→Calls Tryz.prog 164 #[.int .i64 ((f i:Nat):Int)] W fun e w'=>e=.returned (.int .i64 ((f (i+1):Nat):Int))∧W=w'):=fun i W hi hT=>by
  have h1:=amG (j+i) (q / 2 ^ i) W (by omega) (arP hK (afi hq (by omega))) hT;rw[← agp] at h1;rw[hf];exact h1
 have HR:Hid (∀ W,Calls Tryz.prog 163 #[.int .i64 ((2 ^ K:Nat):Int)] W fun e w'=>e=.returned (.int .i64 (((2 ^ K:Nat):Int) - 1))∧W=w'):=fun W=>apL _ W (by have:=aii hK;omega)
 have hf0:nd j q=f 0:=by rw[hf];simp
 have hfi:∀ i,nd (j+i) (q / 2 ^ i)=f i:=fun i=>by rw[hf]
 simp only[hfi] at w1 w2;have W1:=Lib.hid (fun i hi=>(w1 i hi).2.2);have W2:=Lib.hid w2;have hdk:K - j≤10:=by omega
 rw[hf0] at c1;have HH:=Lib.hid hh;generalize ((2 ^ K:Nat):Int)=N at *;clear hJ hY w1 w2 w3 hf hf0 hfi h1 h2 hTab hh hq;refine (callsIn_wide (n:=5)).1 ?_;refine callsIn_of_wp Tryz.func162 rfl trivial ?_ rfl;simp only[Tryz.ntmps162,List.append_toArray,List.append_nil,List.size_toArray,List.length_cons,List.length_nil,Nat.reduceAdd,Nat.reduceSub,Array.replicate_succ,Array.replicate_zero,List.push_toArray,List.nil_append,List.cons_append];gi_wp2
 gi_loopw [4] (fun p wr=>∃ (i:Nat) (Y:Nat→Prop),i≤K - j∧p=.int .i64 ((f i:Nat):Int)∧wr.cell? ⟨b2,0,none⟩=some (.int .i64 N)∧Tab wr∧Held (fun k=>k=b1∨k=b2∨k=1) w wr∧J i Y wr∧(∀ k,Y k→W.heap.size≤k∧k<wr.heap.size)∧W.heap.size≤wr.heap.size) (fun p _=>30 - lev (intOf p).toNat)
 case atStart=>exact ⟨0,_,by omega,rfl,c2,hT,HH.out,h0,fun _ h=>h.elim,Nat.le_refl _⟩
 case round=>
  clear c1 c2 hT h0;obtain ⟨i,Y,hi,rfl,hc2,hT,hhw,hjy,hyb,hsz⟩:=hrel;have hmx:Tryz.prog.follows .mixedOrders=true:=by kernel_rfl
  have hls:Tryz.prog.follows .lateStores=true:=by kernel_rfl
  have hroot:=W2.out i hi;by_cases hlt:i<K - j
  ·have hne:¬((f i:Nat):Int)=N - 1:=fun h=>by have:=hroot.1 h;omega
   have hbf:(((f i:Nat):Int) != N - 1)=true:=bne_iff_ne.2 hne;obtain ⟨fn,tmps,assign,body,hy,hR⟩:=HY.out i Y wr #[.int .i64 ((f i:Nat):Int),.int .i64 ((f (i+1):Nat):Int)] 4 hlt hjy hyb hhw rfl;have HLV:=Lib.hid (And.intro (W1.out i hi) (W1.out (i+1) (by omega)));have HTT:=Lib.hid hT;clear hroot hne;gi_wp2_with (first | (refine ⟨trivial,?_⟩;gi_at_call 163;refine (callsIn_wide.2 (HR.out _)).mono ?_;rintro _ _ ⟨rfl,rfl⟩) | (refine ⟨trivial,?_⟩;gi_at_call 164;refine (callsIn_wide.2 (HP.out i _ hlt HTT.out)).mono ?_;rintro _ _ ⟨rfl,rfl⟩))
   refine hR.mono ?_;rintro e w2 ⟨hh2,(⟨rfl,hj2⟩ | ⟨rfl,hx2⟩)⟩
   ·have hc3:=hh2.cell hc2 (.inr (.inr (.inl rfl)))
    have hT3:=HTT.out.held hh2 (.inr (.inr (.inr rfl)));have HT3:=Lib.hid hT3;have HH3:=Lib.hid (hhw.trans (hh2.mono (fun _ h=>.inr h)));clear hy hR hT3;gi_wp2_with (refine ⟨trivial,?_⟩;gi_at_call 164;refine (callsIn_wide.2 (HP.out i _ hlt HT3.out)).mono ?_;rintro _ _ ⟨rfl,rfl⟩)
    go_roundw
    case rel=>exact ⟨i+1,Y,by omega,rfl,hc3,HT3.out,HH3.out,hj2,fun k h=>⟨(hyb k h).1,Nat.lt_of_lt_of_le (hyb k h).2 hh2.size⟩,by have:=hh2.size;omega⟩
    case measure=>have:=HLV.out;simp[intOf];omega
   ·clear hy hR
    gi_wp2
    refine bodyPost_ret (results_none rfl _ _ _) rfl ?_;exact ⟨⟨_,rfl⟩,Y,fun k h=>⟨(hyb k h).1,Nat.lt_of_lt_of_le (hyb k h).2 hh2.size⟩,.inr ⟨i,hlt,hx2⟩⟩
  ·obtain rfl:i=K - j:=by omega
   have heq:((f (K - j):Nat):Int)=N - 1:=hroot.2 rfl;have hbf:(((f (K - j):Nat):Int) != N - 1)=false:=by rw[heq];simp
   clear heq hroot;gi_wp2_with (refine ⟨trivial,?_⟩;gi_at_call 163;refine (callsIn_wide.2 (HR.out _)).mono ?_;rintro _ _ ⟨rfl,rfl⟩)
   go_end0
   exact ⟨⟨_,rfl⟩,Y,hyb,.inl hjy⟩
end Go.Proofs.YthmhklmkgkfcpaaGreatDoor
