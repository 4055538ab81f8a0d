import Derived.Test.YthmhklmkgkfcpaaGreatDoorR3
import Derived.Test.YthmhklmkgkfcpaaGreatDoorRows
import Derived.WalkSpells
import Derived.Lib.Hide
import Derived.Outline
import Derived.Lib.SmallJoins
set_option linter.unusedVariables false
set_option linter.unusedSimpArgs false
set_option maxHeartbeats 8000000
set_option maxRecDepth 100000
namespace Go.Proofs.YthmhklmkgkfcpaaGreatDoor
open Go.RowKit
theorem aqp {n:Int}(h:∀ i,i≤10→n≠((2 ^ i:Nat):Int)):isTB n=false:=by
 rw[Bool.eq_false_iff];intro h2;obtain ⟨K,hK,e⟩:=(aeK n).1 h2;exact h K hK e
theorem ags (n:Int)(w:World):Calls Tryz.prog 78 #[.int .i64 n] w fun e w'=>e=.returned (.bool (isTB n))∧w=w':=by
 have HP:Hid (∀ k,k<10→(((2 ^ k:Nat):Int))<1024∧(2*((2 ^ k:Nat):Int))=((2 ^ (k+1):Nat):Int)):=fun k hk=>by
  have:(2:Nat) ^ k<2 ^ 10:=Nat.pow_lt_pow_right (by omega) hk;have h2:=aam k;exact ⟨by omega,by omega⟩
 have HY:Hid (∀ k,k≤10→n=((2 ^ k:Nat):Int)→isTB n=true):=fun k hk e=>by rw[e];exact aeJ k hk
 have HNO:Hid ((∀ i,i≤10→n≠((2 ^ i:Nat):Int))→isTB n=false):=aqp;generalize isTB n=b at *;go_enter Tryz.func78,Tryz.ntmps78;go_wp2_with fail;go_loop [3] (fun m=>∃ k:Nat,k≤10∧m=.int .i64 ((2 ^ k:Nat):Int)∧∀ i,i<k→n≠((2 ^ i:Nat):Int)) (fun m=>(1024 - (intOf m).toNat))
 case atStart=>exact ⟨0,by omega,rfl,fun i h=>by omega⟩
 case round=>
  obtain ⟨k,hk,rfl,hno⟩:=hrel;by_cases hlt:k<10
  ·obtain ⟨h1,h2⟩:=HP.out k hlt
   have HY2:=HY.out k hk;have HN:Hid (n≠((2 ^ k:Nat):Int)→∀ i,i<k+1→n≠((2 ^ i:Nat):Int)):=fun he i hi=>by
    rcases Nat.lt_or_eq_of_le (Nat.lt_succ_iff.1 hi) with h3 | h3
    ·exact hno i h3
    ·rw[h3];exact he
   have HM1:(1:Int)≤((2 ^ k:Nat):Int):=by have:=aaC k;exact_mod_cast this
   generalize ((2 ^ k:Nat):Int)=m at *;have hm0:0≤m∨m<0:=by omega
   by_cases he:n=m
   ·have HB:=Lib.hid (HY2 he)
    subst he;clear HY2 HN HY HNO h2 hno HP;go_wp2;go_ret;exact ⟨by rw[HB.out];rfl,rfl⟩
   ·have hne:¬m=n:=fun h=>he h.symm
    have HN2:=Lib.hid (HN.out he);have H2:=Lib.hid h2;by_cases hp:0≤m
    ·have hw:IntKind.i64.wrap (2*m)=2*m:=IntWalk.i64_in _ (by omega)
     have hm1:1≤m:=HM1;clear HY2 HN HY HNO h2 hno HP he hm0;go_wp2;go_round
     case rel=>exact ⟨k+1,by omega,by rw[← H2.out],HN2.out⟩
     case measure=>simp[intOf];omega
    ·exfalso
     have:0≤((2 ^ (k+1):Nat):Int):=Int.natCast_nonneg _;omega
  ·obtain rfl:k=10:=by omega
   have h10:((2 ^ 10:Nat):Int)=1024:=rfl;rw[h10];by_cases he:n=1024
   ·have HB:=Lib.hid (HY.out 10 (by omega) (by rw[he];rfl))
    subst he;clear HY HNO hno HP h10;go_wp2;go_ret;exact ⟨by rw[HB.out];rfl,rfl⟩
   ·have HB:=Lib.hid (HNO.out (fun i hi=>by
     rcases Nat.lt_or_eq_of_le hi with h3 | h3
     ·exact hno i h3
     ·rw[h3];exact he))
    have hne:¬(1024:Int)=n:=fun h=>he h.symm
    have hne2:((1024:Int)==n)=false:=beq_eq_false_iff_ne.2 hne;clear HY HNO hno HP h10 he;go_wp2;go_ret;exact ⟨by rw[HB.out];rfl,rfl⟩
theorem adj (x n:Int)(w:World)(hn:-9223372036854775808≤n∧n≤9223372036854775807):Calls Tryz.prog 95 #[.int .i64 x,.int .i64 n] w fun e w'=>e=.returned (.bool (inB x n))∧w=w':=by
 have HT:=Lib.hid (ags n w);by_cases ht:isTB n=true
 ·have h1:=acB ht
  have h2:IntKind.i64.wrap (2*n)=2*n:=IntWalk.i64_in _ (by omega);have h3:IntKind.i64.wrap (2*n - 1)=2*n - 1:=IntWalk.i64_in _ (by omega);have HI:Hid (inB x n=(decide (0≤x) && decide (x<2*n - 1))):=by unfold inB;rw[ht];rfl
  rw[ht] at HT;rw[HI.out];clear ht h1;by_cases h4:0≤x
  ·have d1:(decide (0≤x) && decide (x<2*n - 1))=decide (x<2*n - 1):=by simp[h4]
   rw[d1];go_enter Tryz.func95,Tryz.ntmps95;go_wp2_with fail;refine HT.out.mono ?_;rintro _ _ ⟨rfl,rfl⟩;go_wp2_with fail;go_ret;exact ⟨rfl,rfl⟩
  ·have d1:(decide (0≤x) && decide (x<2*n - 1))=false:=by simp;intro h;omega
   rw[d1];go_enter Tryz.func95,Tryz.ntmps95;go_wp2_with fail;refine HT.out.mono ?_;rintro _ _ ⟨rfl,rfl⟩;go_wp2_with fail;go_ret;exact ⟨rfl,rfl⟩
 ·have ht2:isTB n=false:=by rw[Bool.eq_false_iff];exact ht
  have HI:Hid (inB x n=false):=by unfold Hid inB;rw[ht2];rfl
  rw[ht2] at HT;rw[HI.out];clear ht ht2;go_enter Tryz.func95,Tryz.ntmps95;go_wp2_with fail;refine HT.out.mono ?_;rintro _ _ ⟨rfl,rfl⟩;go_wp2_with fail;go_ret;exact ⟨rfl,rfl⟩
theorem ajq (n:Int)(w:World):Calls Tryz.prog 75 #[.int .i64 n] w fun e w'=>e=.returned (.tuple #[.int .i64 (widV n),.int .i64 (widE n)])∧w=w':=by
 have HT:=Lib.hid (ags n w);by_cases ht:isTB n=true
 ·have h1:=acB ht
  have h2:IntKind.i64.wrap (2*n)=2*n:=IntWalk.i64_in _ (by omega);have h3:IntKind.i64.wrap (2*n - 1)=2*n - 1:=IntWalk.i64_in _ (by omega);rw[show widV n=2*n - 1 from if_pos ht,show widE n=0 from if_pos ht];rw[ht] at HT;clear ht h1;go_enter Tryz.func75,Tryz.ntmps75;go_wp2_with fail;refine HT.out.mono ?_;rintro _ _ ⟨rfl,rfl⟩;go_wp2_with fail;go_ret2;exact ⟨rfl,rfl⟩
 ·have ht2:isTB n=false:=by rw[Bool.eq_false_iff];exact ht
  rw[show widV n=0 from if_neg ht,show widE n=1 from if_neg ht];rw[ht2] at HT;clear ht ht2;go_enter Tryz.func75,Tryz.ntmps75;go_wp2_with fail;refine HT.out.mono ?_;rintro _ _ ⟨rfl,rfl⟩;go_wp2_with fail;go_ret2;exact ⟨rfl,rfl⟩
theorem anl (j q:Nat):((nd (j+1) q:Nat):Int).tmod 2=1:=by
 have:=ago j q;rw[Int.tmod_eq_emod_of_nonneg (by omega)];omega
theorem alY (q:Nat):((nd 0 q:Nat):Int).tmod 2=0:=by
 have:=ais q;rw[Int.tmod_eq_emod_of_nonneg (by omega)];omega
theorem aoS (j q:Nat):((nd (j+1) q:Nat):Int).tdiv 2=((nd j q:Nat):Int):=by
 have:=ana j q;rw[Int.tdiv_eq_ediv_of_nonneg (by omega)];omega
theorem akw (j q:Nat)(w:World)(hj:j≤10)(hq:q<2 ^ (10 - j)):Calls Tryz.prog 82 #[.int .i64 ((nd j q:Nat):Int)] w fun e w'=>e=.returned (.int .i64 (j:Int))∧w=w':=by
 obtain ⟨b0,b1⟩:=(aaJ ((nd j q:Nat):Int)).2 ⟨j,q,rfl,hj,hq⟩;have HS:Hid (∀ i,i≤j→0≤((nd i q:Nat):Int)∧((nd i q:Nat):Int)≤2046):=fun i hi=>(aaJ ((nd i q:Nat):Int)).2 ⟨i,q,rfl,by omega,Nat.lt_of_lt_of_le hq (Nat.pow_le_pow_right (by omega) (by omega))⟩
 have HO:=Lib.hid (fun i=>anl i q);have HE:=Lib.hid (alY q);have HD:=Lib.hid (fun i=>aoS i q);obtain ⟨f,hf⟩:∃ f:Nat→Int,f=fun i=>((nd i q:Nat):Int):=⟨_,rfl⟩
 have hfi:∀ i,((nd i q:Nat):Int)=f i:=fun i=>by rw[hf]
 simp only[hfi] at *;clear hf hfi;go_enter Tryz.func82,Tryz.ntmps82;go_wp2_with fail;go_loop [3,4] (fun k y=>∃ i:Nat,i≤j∧k=.int .i64 ((j - i:Nat):Int)∧y=.int .i64 (f i)) (fun k _=>(j - (intOf k).toNat))
 case atStart=>exact ⟨j,Nat.le_refl _,by simp,rfl⟩
 case round=>
  obtain ⟨i,hi,rfl,rfl⟩:=hrel;cases i with
  | zero=>
   have e1:=HE.out;clear HS HO HE HD;rw[Nat.sub_zero];go_wp2;go_ret;exact ⟨rfl,rfl⟩
  | succ i=>
   have e1:=HO.out i;have e2:=HD.out i;have e3:=HS.out i (by omega);have e6:IntKind.i64.wrap (f i)=f i:=IntWalk.i64_in _ (by omega);obtain ⟨k,hk⟩:∃ k:Int,((j - (i+1):Nat):Int)=k:=⟨_,rfl⟩;have hk1:k+1=((j - i:Nat):Int):=by omega
   have hk2:0≤k∧k≤10:=by omega
   have e5:IntKind.i64.wrap (k+1)=k+1:=IntWalk.i64_in _ (by omega);have HK1:=Lib.hid hk1;rw[hk];clear HS HO HE HD e3 hk hk1;go_wp2;go_round
   case rel=>exact ⟨i,by omega,by rw[← HK1.out],rfl⟩
   case measure=>have:=HK1.out;simp[intOf];omega
theorem akx (x:Int)(w:World)(h:¬okN x):Calls Tryz.prog 82 #[.int .i64 x] w fun e w'=>e=.returned (.int .i64 0)∧w=w':=by
 unfold okN at h;by_cases h0:0≤x
 ·have h1:¬x≤2046:=fun h1=>h ⟨h0,h1⟩
  clear h;go_enter Tryz.func82,Tryz.ntmps82;go_wp2_with fail;go_loop [3,4] (fun k y=>k=.int .i64 0∧y=.int .i64 x) (fun _ _=>0)
  case atStart=>exact ⟨rfl,rfl⟩
  case round=>
   obtain ⟨rfl,rfl⟩:=hrel;go_wp2;go_ret;exact ⟨rfl,rfl⟩
 ·clear h
  go_enter Tryz.func82,Tryz.ntmps82;go_wp2_with fail;go_loop [3,4] (fun k y=>k=.int .i64 0∧y=.int .i64 x) (fun _ _=>0)
  case atStart=>exact ⟨rfl,rfl⟩
  case round=>
   obtain ⟨rfl,rfl⟩:=hrel;go_wp2;go_ret;exact ⟨rfl,rfl⟩
theorem adO (x:Int)(w:World):Calls Tryz.prog 82 #[.int .i64 x] w fun e w'=>e=.returned (.int .i64 (levV x))∧w=w':=by
 by_cases h:okN x
 ·obtain ⟨j,q,rfl,hj,hq⟩:=(aaJ x).1 h
  rw[abF hj hq];exact akw j q w hj hq
 ·rw[agr h]
  exact akx x w h
theorem afG (k:Nat)(w:World)(hk:k≤20):Calls Tryz.prog 83 #[.int .i64 (k:Int)] w fun e w'=>e=.returned (.int .i64 ((2 ^ k:Nat):Int))∧w=w':=by
 have HP:Hid (∀ i,i<k→0≤((2 ^ i:Nat):Int)∧((2 ^ i:Nat):Int)≤1048576∧2*((2 ^ i:Nat):Int)=((2 ^ (i+1):Nat):Int)):=fun i hi=>by
  have h1:(2:Nat) ^ i≤2 ^ 20:=Nat.pow_le_pow_right (by omega) (by omega);have h2:=aam i;generalize 2 ^ (i+1)=N at *;generalize 2 ^ i=M at *;omega
 obtain ⟨f,hf⟩:∃ f:Nat→Int,f=fun i=>((2 ^ i:Nat):Int):=⟨_,rfl⟩
 have hfi:∀ i,((2 ^ i:Nat):Int)=f i:=fun i=>by rw[hf]
 have hf0:f 0=1:=by rw[hf];rfl
 simp only[hfi] at *;clear hf hfi;have HF0:=Lib.hid hf0;clear hf0;go_enter Tryz.func83,Tryz.ntmps83;go_wp2_with fail;go_loop [3,4] (fun n y=>∃ i:Nat,i≤k∧n=.int .i64 (f i)∧y=.int .i64 (i:Int)) (fun _ y=>(k - (intOf y).toNat))
 case atStart=>exact ⟨0,Nat.zero_le _,by rw[HF0.out],rfl⟩
 case round=>
  obtain ⟨i,hi,rfl,rfl⟩:=hrel;by_cases hlt:i<k
  ·obtain ⟨h1,h2,h3⟩:=HP.out i hlt
   have HN:=Lib.hid h3;have hw:IntKind.i64.wrap (2*f i)=2*f i:=IntWalk.i64_in _ (by omega);clear HP h3 HF0;go_wp2;go_round
   case rel=>exact ⟨i+1,by omega,by rw[← HN.out],by go_num⟩
   case measure=>simp[intOf];omega
  ·obtain rfl:i=k:=by omega
   go_wp2;go_ret;exact ⟨rfl,rfl⟩
structure Nod where
 mk ::
 kind:Int
 name:Int
 pub:List UInt8
 un:List Int
 hash:List UInt8
theorem Nod.eq_iff (a b:Nod):a=b↔a.kind=b.kind∧a.name=b.name∧a.pub=b.pub∧a.un=b.un∧a.hash=b.hash:=by
 cases a;cases b;simp
instance:DecidableEq Nod:=fun a b=>decidable_of_iff _ (Nod.eq_iff a b).symm
def aao:Nod:=⟨0,0,[],[],[]⟩
def aah (name:Int)(pub:List UInt8):Nod:=⟨1,name,pub,[],[]⟩
def ats (t:List Nod)(x:Nat):Nod:=t.getD x aao
def lvs (t:List Nod):Nat:=(t.length+1) / 2
theorem aes {t:List Nod}{x:Nat}(h:x<t.length):ats t x=t[x]:=by
 unfold ats;rw[List.getD_eq_getElem?_getD,List.getElem?_eq_getElem h];rfl
theorem acR {t:List Nod}{x:Nat}(h:t.length≤x):ats t x=aao:=by
 unfold ats;rw[List.getD_eq_getElem?_getD,List.getElem?_eq_none h];rfl
theorem abl (t:List Nod)(y:Nat)(n:Nod)(x:Nat)(h:y<t.length):ats (t.set y n) x=if x=y then n else ats t x:=by
 unfold ats;rw[List.getD_eq_getElem?_getD,List.getElem?_set,List.getD_eq_getElem?_getD];by_cases e:y=x
 ·subst e
  rw[if_pos rfl,if_pos rfl,if_pos h];rfl
 ·rw[if_neg e,if_neg (fun h=>e h.symm)]
theorem aqs (t:List Nod)(k x:Nat):ats (t++List.replicate k aao) x=ats t x:=by
 unfold ats;rw[List.getD_eq_getElem?_getD,List.getD_eq_getElem?_getD];by_cases h:x<t.length
 ·rw[List.getElem?_append_left h]
 ·rw[List.getElem?_append_right (by omega),List.getElem?_eq_none (l:=t) (by omega),List.getElem?_replicate]
  split <;> rfl
theorem anp {t u:List Nod}(hl:t.length=u.length)(h:∀ x,ats t x=ats u x):t=u:=by
 refine List.ext_getElem hl fun x h1 h2=>?_
 have:=h x;rwa [aes h1,aes h2] at this
def mayP (name:Int)(pub:List UInt8):Prop:=0≤name∧name≤65535∧pub.length=32
instance (name:Int) (pub:List UInt8):Decidable (mayP name pub):=by unfold mayP;infer_instance
def unP (t:List Nod)(a b:Int)(l:List Int):Prop:=l.Pairwise (·<·)∧∀ i∈l,a≤i∧i≤b∧(ats t (2*i.toNat)).kind=1
def okP (t:List Nod)(x:Nat):Prop:=
 ats t x=aao ∨
 ((ats t x).kind=1+(x:Int) % 2∧mayP (ats t x).name (ats t x).pub∧((ats t x).hash.length=0∨(ats t x).hash.length=32) ∧
  ((ats t x).kind=1→(ats t x).un=[])∧((ats t x).kind=2→(ats t x).name=0∧unP t (loV x) (hiV x) (ats t x).un))
structure aab (t:List Nod)(K:Nat):Prop where
 mk ::
 le:K≤10
 len:t.length=2 ^ (K+1) - 1
 ok:∀ x,x<t.length→okP t x
 one:∀ x y,x<y→y<t.length→(ats t x).kind=1→(ats t y).kind=1→(ats t x).name≠(ats t y).name
 used:∃ x,x<t.length∧(ats t x).kind=1
def adb (t:List Nod):Prop:=∃ K,aab t K
theorem aab.lv {t:List Nod}{K:Nat}(h:aab t K):lvs t=2 ^ K:=by
 unfold lvs;rw[h.len];have:=aaC K;have:=aam K;omega
theorem aab.len2 {t:List Nod}{K:Nat}(h:aab t K):t.length=2*2 ^ K - 1:=by rw[h.len,aam]
theorem aab.okA {t:List Nod}{K:Nat}(h:aab t K)(x:Nat):okP t x:=by
 by_cases hx:x<t.length
 ·exact h.ok x hx
 ·exact .inl (acR (by omega))
theorem al1 {t:List Nod}{x:Nat}(h:okP t x)(hk:(ats t x).kind=0):ats t x=aao:=by
 rcases h with h | ⟨h,_⟩
 ·exact h
 ·omega
theorem aab.even {t:List Nod}{K:Nat}(h:aab t K)(i:Nat):ats t (2*i)=aao∨((ats t (2*i)).kind=1∧(ats t (2*i)).un=[]∧mayP (ats t (2*i)).name (ats t (2*i)).pub∧((ats t (2*i)).hash.length=0∨(ats t (2*i)).hash.length=32)):=by
 rcases h.okA (2*i) with h1 | ⟨h1,h2,h3,h4,_⟩
 ·exact .inl h1
 ·have e:(ats t (2*i)).kind=1:=by rw[h1];omega
  exact .inr ⟨e,h4 e,h2,h3⟩
theorem aab.odd {t:List Nod}{K:Nat}(h:aab t K){x:Nat}(hx:x % 2=1):ats t x=aao∨((ats t x).kind=2∧unP t (loV x) (hiV x) (ats t x).un):=by
 rcases h.okA x with h1 | ⟨h1,h2,h3,h4,h5⟩
 ·exact .inl h1
 ·have e:(ats t x).kind=2:=by rw[h1];omega
  exact .inr ⟨e,(h5 e).2⟩
theorem aab.unAt {t:List Nod}{K:Nat}(h:aab t K){j q:Nat}(hj:j≤10)(hq:q<2 ^ (10 - j))(i:Int)(hi:i∈(ats t (nd j q)).un):
  ∃ k:Nat,i=(k:Int)∧k / 2 ^ j=q∧(ats t (2*k)).kind=1:=by
 rcases h.okA (nd j q) with h1 | ⟨h1,h2,h3,h4,h5⟩
 ·rw[h1] at hi;simp[aao] at hi
 ·by_cases e:(ats t (nd j q)).kind=1
  ·rw[h4 e] at hi;simp at hi
  ·have e2:(ats t (nd j q)).kind=2:=by omega
   obtain ⟨a1,a2,a3⟩:=(h5 e2).2.2 i hi;obtain ⟨l1,l2⟩:=anh hj hq;rw[l1] at a1;rw[l2] at a2;obtain ⟨k,rfl⟩:=Int.eq_ofNat_of_zero_le (show 0≤i by omega);rw[Int.toNat_natCast] at a3;refine ⟨k,rfl,(ajn j q k).1 ⟨by omega,?_⟩,a3⟩;have:=aaC j;omega
def aqt (t:List Nod)(name:Int):Nat:=(List.range (lvs t)).findIdx fun i=>decide ((ats t (2*i)).kind=1∧(ats t (2*i)).name=name)
def agv (t:List Nod)(name:Int):Bool:=decide (aqt t name<lvs t)
def al3 (t:List Nod)(name:Int):Int:=if agv t name then (aqt t name:Int) else 0
theorem acn {n:Nat}{p:Nat→Bool}(h:(List.range n).findIdx p<n):p ((List.range n).findIdx p)=true:=by
 have:=List.findIdx_getElem (p:=p) (xs:=List.range n) (w:=by rw[List.length_range];exact h);rwa [List.getElem_range] at this
theorem afj {n:Nat}{p:Nat→Bool}{i:Nat}(h:i<(List.range n).findIdx p):p i=false:=by
 have h2:i<(List.range n).length:=Nat.lt_of_lt_of_le h List.findIdx_le_length;have:=List.not_of_lt_findIdx (p:=p) (xs:=List.range n) h;rw[List.getElem_range] at this;simpa using this
theorem adG (n:Nat)(p:Nat→Bool):(List.range n).findIdx p≤n:=by
 have:=List.findIdx_le_length (p:=p) (xs:=List.range n);rwa [List.length_range] at this
theorem adH {n:Nat}{p:Nat→Bool}{i:Nat}(hi:i≤n)(h1:i<n→p i=true)(h2:∀ k,k<i→p k=false):(List.range n).findIdx p=i:=by
 rcases Nat.lt_trichotomy ((List.range n).findIdx p) i with h | h | h
 ·have:=acn (p:=p) (n:=n) (by omega)
  rw[h2 _ h] at this;cases this
 ·exact h
 ·have h3:=afj h
  have h4:=adG n p;rw[h1 (by omega)] at h3;cases h3
def gapN (t:List Nod):Nat:=(List.range (lvs t)).findIdx fun i=>decide ((ats t (2*i)).kind=0)
def cutI (l:List Int)(n:Int):Nat:=l.findIdx fun x=>decide (n<x)
def putN (l:List Int)(n:Int):List Int:=l.take (cutI l n)++n :: l.drop (cutI l n)
def lgT (t:List Nod):Nat:=(lvs t).log2
def aav (t:List Nod)(i:Nat):List Nat:=aag (lgT t) 0 i
def aai (t:List Nod):List Nod:=if gapN t=lvs t then t++List.replicate (t.length+1) aao else t
def agw (n:Nod)(i:Nat):Nod:=⟨n.kind,n.name,n.pub,putN n.un i,n.hash⟩
def abT (o:List Nod)(i:Nat)(x:Nat):List Nod:=if (ats o x).kind=2 then o.set x (agw (ats o x) i) else o
def addT (t:List Nod)(name:Int)(pub:List UInt8):List Nod:=
 (aav (aai t) (gapN t)).foldl (fun o x=>abT o (gapN t) x) ((aai t).set (2*gapN t) (aah name pub))
def addE (t:List Nod)(name:Int)(pub:List UInt8):Int:=
 if mayP name pub then (if agv t name then 12 else if gapN t=1024 then 4 else 0) else 1
def addV (t:List Nod)(name:Int)(pub:List UInt8):List Nod:=if addE t name pub=0 then addT t name pub else t
def addI (t:List Nod)(name:Int)(pub:List UInt8):Int:=if addE t name pub=0 then (gapN t:Int) else 0
def aar (t:List Nod)(i:Int):Prop:=0≤i∧i<lvs t∧(ats t (2*i.toNat)).kind=1
instance (t:List Nod) (i:Int):Decidable (aar t i):=by unfold aar;infer_instance
def ajr (t:List Nod)(i:Nat):List Nod:=(aav t i).foldl (fun o x=>o.set x aao) t
def ars (t:List Nod)(f:Nat):Prop:=∀ i,f≤i→i<lvs t→(ats t (2*i)).kind=0
instance (t:List Nod) (f:Nat):Decidable (ars t f):=
 decidable_of_iff (∀ i,i<lvs t→f≤i→(ats t (2*i)).kind=0) ⟨fun h i h1 h2=>h i h2 h1,fun h i h1 h2=>h i h2 h1⟩
def art (t:List Nod)(i:Nat):List Nod:=(ajr t i).set (2*i) aao
def updE (t:List Nod)(i:Int)(pub:List UInt8):Int:=if pub.length=32 then (if aar t i then 0 else 11) else 1
def updT (t:List Nod)(i:Nat)(pub:List UInt8):List Nod:=(ajr t i).set (2*i) (aah (ats t (2*i)).name pub)
def updV (t:List Nod)(i:Int)(pub:List UInt8):List Nod:=if updE t i pub=0 then updT t i.toNat pub else t
def resF (t:List Nod):Nat→Nat→List Int
 | 0,q=>if (ats t (nd 0 q)).kind=0 then [] else ((nd 0 q:Nat):Int) :: (ats t (nd 0 q)).un.map (2*·)
 | j+1,q=>if (ats t (nd (j+1) q)).kind=0 then resF t j (2*q)++resF t j (2*q+1) else ((nd (j+1) q:Nat):Int) :: (ats t (nd (j+1) q)).un.map (2*·)
def resV (t:List Nod)(x:Int):List Int:=if 0≤x∧x<t.length then resF t (lev x.toNat) (qOf x.toNat) else []
def adQ (t:List Nod)(m:Nat):Prop:=t.length≤m∧∀ n∈t,n.pub.length≤40∧n.hash.length≤40∧n.un.length≤m
theorem anq {K:Nat}(h:K≤10):(2 ^ K).log2=K:=by
 have:=anf K h;unfold lgN at this;rwa [Int.toNat_natCast] at this
theorem aab.lg {t:List Nod}{K:Nat}(h:aab t K):lgT t=K:=by
 unfold lgT;rw[h.lv,anq h.le]
theorem acr {K i x:Nat}:x∈aag K 0 i↔∃ j,1≤j∧j≤K∧x=nd j (i / 2 ^ j):=by
 unfold aag;rw[List.mem_map];constructor
 ·rintro ⟨k,hk,rfl⟩
  rw[List.mem_range] at hk;exact ⟨k+1,by omega,by omega,by rw[show 0+1+k=k+1 by omega]⟩
 ·rintro ⟨j,h1,h2,rfl⟩
  exact ⟨j - 1,by rw[List.mem_range];omega,by rw[show 0+1+(j - 1)=j by omega,show j - 1+1=j by omega]⟩
theorem aaP {K i x:Nat}(h:x∈aag K 0 i):x % 2=1:=by
 obtain ⟨j,h1,_,rfl⟩:=acr.1 h;obtain ⟨j,rfl⟩:=Nat.exists_eq_add_of_le' h1;exact ago _ _
theorem abm {K i x:Nat}(hi:i<2 ^ K)(h:x∈aag K 0 i):x<2 ^ (K+1) - 1:=by
 obtain ⟨j,h1,h2,rfl⟩:=acr.1 h;refine ahq h2 ?_;have:=afi (K:=K) (j:=0) (q:=i) (i:=j) (by simpa using hi) (by omega);rwa [show K - (0+j)=K - j by omega] at this
theorem afk (K i:Nat):(aag K 0 i).Nodup:=by
 unfold aag;refine List.Pairwise.map _ ?_ (List.nodup_range (n:=K - 0));intro a b hab he;have:=(aeI he).1;omega
theorem anr (l:List Nat):∀ t:List Nod,(l.foldl (fun o x=>o.set x aao) t).length=t.length:=by
 induction l with
 | nil=>intro t;rfl
 | cons a l ih=>intro t;rw[List.foldl_cons,ih,List.length_set]
theorem aoW (l:List Nat):∀ (t:List Nod) (x:Nat),(∀ y∈l,y<t.length)→ats (l.foldl (fun o x=>o.set x aao) t) x=if x∈l then aao else ats t x:=by
 induction l with
 | nil=>intro t x _;simp
 | cons a l ih=>
  intro t x h
  rw[List.foldl_cons,ih (t.set a aao) x (fun y hy=>by rw[List.length_set];exact h y (List.mem_cons_of_mem _ hy)),abl t a aao x (h a List.mem_cons_self)]
  by_cases e:x=a
  ·subst e;simp
  ·simp[e]
theorem aix (l:List Nat)(i:Nat):∀ t:List Nod,(l.foldl (fun o x=>abT o i x) t).length=t.length:=by
 induction l with
 | nil=>intro t;rfl
 | cons a l ih=>
  intro t
  rw[List.foldl_cons,ih]
  unfold abT
  split
  ·rw[List.length_set]
  ·rfl
theorem aoX (t:List Nod)(i a x:Nat)(h:a<t.length):ats (abT t i a) x=if x=a∧(ats t a).kind=2 then agw (ats t a) i else ats t x:=by
 unfold abT;by_cases hk:(ats t a).kind=2
 ·rw[if_pos hk,abl t a _ x h]
  by_cases e:x=a
  ·rw[if_pos e,if_pos ⟨e,hk⟩]
  ·rw[if_neg e,if_neg (fun h=>e h.1)]
 ·rw[if_neg hk,if_neg (fun h=>hk h.2)]
theorem alu (l:List Nat)(i:Nat):∀ (t:List Nod) (x:Nat),l.Nodup→(∀ y∈l,y<t.length) →
  ats (l.foldl (fun o x=>abT o i x) t) x=if x∈l∧(ats t x).kind=2 then agw (ats t x) i else ats t x:=by
 induction l with
 | nil=>intro t x _ _;simp
 | cons a l ih=>
  intro t x hn h
  have ha:=h a List.mem_cons_self
  rw[List.nodup_cons] at hn
  have hlen:(abT t i a).length=t.length:=by
   have:=aix [a] i t
   simpa using this
  rw[List.foldl_cons,ih (abT t i a) x hn.2 (fun y hy=>by rw[hlen];exact h y (List.mem_cons_of_mem _ hy)),aoX t i a x ha]
  by_cases e:x=a
  ·subst e
   have e1:¬(x∈l∧(if x=x∧(ats t x).kind=2 then agw (ats t x) i else ats t x).kind=2):=fun h=>hn.1 h.1
   rw[if_neg e1]
   by_cases hk:(ats t x).kind=2
   ·rw[if_pos ⟨rfl,hk⟩,if_pos ⟨List.mem_cons_self,hk⟩]
   ·rw[if_neg (fun h=>hk h.2),if_neg (fun h=>hk h.2)]
  ·have e1:(if x=a∧(ats t a).kind=2 then agw (ats t a) i else ats t x)=ats t x:=if_neg (fun h=>e h.1)
   rw[e1]
   by_cases hm:x∈l∧(ats t x).kind=2
   ·rw[if_pos hm,if_pos ⟨List.mem_cons_of_mem _ hm.1,hm.2⟩]
   ·rw[if_neg hm,if_neg (fun h=>hm ⟨(List.mem_cons.1 h.1).resolve_left e,h.2⟩)]
theorem ans (t:List Nod):gapN t≤lvs t:=adG _ _
theorem ant {t:List Nod}(h:gapN t<lvs t):(ats t (2*gapN t)).kind=0:=by
 have:=acn h;exact of_decide_eq_true this
theorem aru {t:List Nod}{i:Nat}(hi:i≤lvs t)(h1:i<lvs t→(ats t (2*i)).kind=0)(h2:∀ k,k<i→(ats t (2*k)).kind≠0):gapN t=i:=
 adH hi (fun h=>decide_eq_true (h1 h)) (fun k hk=>decide_eq_false (h2 k hk))
def wK (t:List Nod)(K:Nat):Nat:=if gapN t=lvs t then K+1 else K
theorem aab.wide {t:List Nod}{K:Nat}(h:aab t K):(aai t).length=2 ^ (wK t K+1) - 1∧lvs (aai t)=2 ^ wK t K∧gapN t<2 ^ wK t K∧(∀ x,ats (aai t) x=ats t x)∧K≤wK t K:=by
 have h1:=h.len2;have h2:=h.lv;have h3:=aaC K;have h4:=aam K;have h5:=ans t;unfold aai wK;unfold lvs at h2 h5 ⊢;by_cases hg:gapN t=(t.length+1) / 2
 ·rw[if_pos hg,if_pos hg]
  have h6:=aam (K+1);refine ⟨?_,?_,?_,fun x=>aqs _ _ _,by omega⟩
  ·rw[List.length_append,List.length_replicate];omega
  ·rw[List.length_append,List.length_replicate];omega
  ·omega
 ·rw[if_neg hg,if_neg hg]
  exact ⟨by omega,by omega,by omega,fun x=>rfl,by omega⟩
theorem aab.gap1024 {t:List Nod}{K:Nat}(h:aab t K)(hg:gapN t≠1024):wK t K≤10:=by
 unfold wK;have h1:=h.le;have h2:=h.lv;split
 ·next e=>
  rcases Nat.lt_or_eq_of_le h1 with h3 | h3
  ·omega
  ·subst h3
   rw[e,h2] at hg;exact absurd rfl hg
 ·exact h1
theorem aab.blankLen {t:List Nod}(i:Nat):(ajr t i).length=t.length:=anr _ _
theorem aab.blankAt {t:List Nod}{K:Nat}(h:aab t K){i:Nat}(hi:i<2 ^ K)(x:Nat):ats (ajr t i) x=if x∈aag K 0 i then aao else ats t x:=by
 unfold ajr aav;rw[h.lg];exact aoW _ _ x (fun y hy=>by rw[h.len];exact abm hi hy)
theorem aab.goneAt {t:List Nod}{K:Nat}(h:aab t K){i:Nat}(hi:i<2 ^ K)(x:Nat):ats (art t i) x=if x=2*i∨x∈aag K 0 i then aao else ats t x:=by
 have h1:=h.len2;unfold art;rw[abl _ _ _ x (by rw[aab.blankLen,h1];omega),h.blankAt hi x];by_cases e:x=2*i
 ·rw[if_pos e,if_pos (.inl e)]
 ·rw[if_neg e]
  by_cases hm:x∈aag K 0 i
  ·rw[if_pos hm,if_pos (.inr hm)]
  ·rw[if_neg hm,if_neg (fun h=>h.elim e hm)]
theorem aab.updAt {t:List Nod}{K:Nat}(h:aab t K){i:Nat}(hi:i<2 ^ K)(pub:List UInt8)(x:Nat):
  ats (updT t i pub) x=if x=2*i then aah (ats t (2*i)).name pub else if x∈aag K 0 i then aao else ats t x:=by
 have h1:=h.len2;unfold updT;rw[abl _ _ _ x (by rw[aab.blankLen,h1];omega),h.blankAt hi x]
theorem aab.updLen {t:List Nod}(i:Nat)(pub:List UInt8):(updT t i pub).length=t.length:=by
 unfold updT;rw[List.length_set,aab.blankLen]
theorem aab.lt_of {t:List Nod}{x:Nat}(h:(ats t x).kind≠0):x<t.length:=by
 refine Nat.lt_of_not_le fun hx=>h ?_
 rw[acR hx];rfl
theorem aqz {t u:List Nod}{x:Nat}(h:okP t x)(he:ats u x=ats t x)(hk:∀ k:Nat,(k:Int)∈(ats t x).un→(ats t (2*k)).kind=1→(ats u (2*k)).kind=1)(hlo:0≤loV x):okP u x:=by
 rcases h with h1 | ⟨h1,h2,h3,h4,h5⟩
 ·exact .inl (by rw[he,h1])
 ·refine .inr ?_
  rw[he];refine ⟨h1,h2,h3,h4,fun e=>⟨(h5 e).1,(h5 e).2.1,fun i hi=>?_⟩⟩;obtain ⟨a1,a2,a3⟩:=(h5 e).2.2 i hi;obtain ⟨k,rfl⟩:=Int.eq_ofNat_of_zero_le (show 0≤i by omega);rw[Int.toNat_natCast] at a3 ⊢;exact ⟨a1,a2,hk k hi a3⟩
theorem anu (x:Int):0≤loV x:=by
 unfold loV;split
 ·omega
 ·omega
theorem arv {l:List Int}{n:Int}{k:Nat}(h:k<cutI l n)(hk:k<l.length):l[k]≤n:=by
 have:=List.not_of_lt_findIdx (p:=fun x=>decide (n<x)) (xs:=l) h;have:=of_decide_eq_false (by simpa using this:decide (n<l[k])=false);omega
theorem arw {l:List Int}{n:Int}(h:cutI l n<l.length):n<l[cutI l n]:=by
 have:=List.findIdx_getElem (p:=fun x=>decide (n<x)) (xs:=l) (w:=h);exact of_decide_eq_true this
theorem aqA (l:List Int)(n:Int):cutI l n≤l.length:=List.findIdx_le_length
theorem anv {t:List Nod}{name:Int}(h:∀ k,k<lvs t→¬((ats t (2*k)).kind=1∧(ats t (2*k)).name=name)):agv t name=false:=by
 refine decide_eq_false fun hl=>?_
 have:=acn hl;exact h _ hl (of_decide_eq_true this)
theorem aab.upd {t:List Nod}{K:Nat}(h:aab t K){i:Nat}(hk:(ats t (2*i)).kind=1){pub:List UInt8}(hp:pub.length=32):aab (updT t i pub) K:=by
 have hi:i<2 ^ K:=by
  have h1:=aab.lt_of (t:=t) (x:=2*i) (by rw[hk];decide);have h2:=h.len2;omega
 have hA:=h.updAt hi pub;have hL:=aab.updLen (t:=t) i pub;have hme:mayP (ats t (2*i)).name pub:=by
  rcases h.even i with e | ⟨_,_,e,_⟩
  ·rw[e] at hk;cases hk
  ·exact ⟨e.1,e.2.1,hp⟩
 refine ⟨h.le,by rw[hL,h.len],fun x hx=>?_,fun x y hxy hy hx1 hy1=>?_,⟨2*i,by rw[hL];exact aab.lt_of (by rw[hk];decide),by rw[hA,if_pos rfl];rfl⟩⟩
 ·by_cases e1:x=2*i
  ·refine .inr ?_
   rw[hA,if_pos e1];exact ⟨by rw[e1];show (1:Int)=_;omega,hme,.inl rfl,fun _=>rfl,fun h2=>absurd h2 (show ¬(1:Int)=2 by decide)⟩
  ·by_cases e2:x∈aag K 0 i
   ·exact .inl (by rw[hA,if_neg e1,if_pos e2])
   ·refine aqz (h.okA x) (by rw[hA,if_neg e1,if_neg e2]) (fun k hk1 hk=>?_) (anu _)
    rw[hA];by_cases e3:2*k=2*i
    ·rw[if_pos e3];rfl
    ·rw[if_neg e3,if_neg (fun hm=>by have:=aaP hm;omega)]
     exact hk
 ·have hk:∀ z,(ats (updT t i pub) z).kind=1→(ats t z).kind=1∧(ats (updT t i pub) z).name=(ats t z).name:=fun z h1=>by
   rw[hA] at h1 ⊢;by_cases e1:z=2*i
   ·rw[if_pos e1,e1]
    exact ⟨hk,rfl⟩
   ·rw[if_neg e1] at h1 ⊢
    split at h1
    ·cases h1
    ·next e=>rw[if_neg e];exact ⟨h1,rfl⟩
  rw[(hk x hx1).2,(hk y hy1).2];exact h.one x y hxy (by rw[← hL];exact hy) (hk x hx1).1 (hk y hy1).1
theorem arx {t:List Nod}{K:Nat}(h:aab t K):∀ (j q:Nat),j≤K→q<2 ^ (K - j)→∀ l∈resF t j q,∃ y:Nat,l=(y:Int)∧y<t.length∧(ats t y).kind≠0:=by
 have hfull:∀ (j q:Nat),j≤K→q<2 ^ (K - j)→(ats t (nd j q)).kind≠0→∀ l∈(((nd j q:Nat):Int) :: (ats t (nd j q)).un.map (2*·)),∃ y:Nat,l=(y:Int)∧y<t.length∧(ats t y).kind≠0:=by
  intro j q hj hq hk l hl
  obtain ⟨_,s2,s3⟩:=abn h.le hj hq
  rcases List.mem_cons.1 hl with rfl | hl
  ·exact ⟨_,rfl,aab.lt_of hk,hk⟩
  ·obtain ⟨u,hu,rfl⟩:=List.mem_map.1 hl
   obtain ⟨k,rfl,_,a3⟩:=h.unAt s2 s3 u hu
   exact ⟨2*k,by omega,aab.lt_of (by rw[a3];decide),by rw[a3];decide⟩
 intro j
 induction j with
 | zero=>
  intro q hj hq l hl
  unfold resF at hl
  by_cases hk:(ats t (nd 0 q)).kind=0
  ·rw[if_pos hk] at hl;simp at hl
  ·rw[if_neg hk] at hl
   exact hfull 0 q hj hq hk l hl
 | succ j ih=>
  intro q hj hq l hl
  unfold resF at hl
  by_cases hk:(ats t (nd (j+1) q)).kind=0
  ·rw[if_pos hk] at hl
   have e:K - j=(K - (j+1))+1:=by omega
   have hp:=aam (K - (j+1))
   rcases List.mem_append.1 hl with hl | hl
   ·exact ih (2*q) (by omega) (by rw[e];omega) l hl
   ·exact ih (2*q+1) (by omega) (by rw[e];omega) l hl
  ·rw[if_neg hk] at hl
   exact hfull (j+1) q hj hq hk l hl
theorem anw {t:List Nod}{K j q:Nat}(h:aab t K)(hj:j≤K)(hq:q<2 ^ (K - j)):resV t ((nd j q:Nat):Int)=resF t j q:=by
 have h1:=ahq hj hq;have h2:=h.le;unfold resV;rw[if_pos ⟨by omega,by rw[h.len];omega⟩,Int.toNat_natCast,adM j q (by omega),ahQ j q (by omega)]
theorem aab.there_iff {t:List Nod}{K:Nat}(h:aab t K)(k:Nat):aar t (k:Int)↔(ats t (2*k)).kind=1:=by
 constructor
 ·intro hi
  have:=hi.2.2;rwa [Int.toNat_natCast] at this
 ·intro hk
  have:=aab.lt_of (t:=t) (x:=2*k) (by rw[hk];decide);exact ⟨by omega,by unfold lvs;omega,by rw[Int.toNat_natCast];exact hk⟩
theorem aab.new {name:Int}{pub:List UInt8}(h:mayP name pub):aab [aah name pub] 0:=by
 have e0:ats [aah name pub] 0=aah name pub:=rfl;refine ⟨by omega,rfl,fun x hx=>?_,fun x y hxy hy=>by simp at hy;omega,⟨0,by simp,rfl⟩⟩;have:x=0:=by simpa using hx
 subst this;rw[show okP [aah name pub] 0↔_ from Iff.rfl];exact .inr ⟨rfl,h,.inl rfl,fun _=>rfl,fun h2=>absurd h2 (show ¬(1:Int)=2 by decide)⟩
end Go.Proofs.YthmhklmkgkfcpaaGreatDoor
