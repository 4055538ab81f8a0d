import Derived.Test.YthmhklmkgkfcpaaGreatDoorR9
import Derived.Test.YthmhklmkgkfcpaaGreatDoorR10
import Derived.Test.YthmhklmkgkfcpaaGreatDoorR11
import Derived.Test.YthmhklmkgkfcpaaGreatDoorR17
import Derived.Test.YthmhklmkgkfcpaaGreatDoorR19
import Derived.Test.YthmhklmkgkfcpaaGreatDoorR25
import Derived.Test.YthmhklmkgkfcpaaGreatDoorR26
import Derived.Test.YthmhklmkgkfcpaaGreatDoorR29
import Derived.Test.YthmhklmkgkfcpaaGreatDoorR30
import Derived.Deep.RegionHeld3
set_option linter.unusedVariables false
set_option linter.unusedSimpArgs false
set_option maxHeartbeats 8000000
set_option maxRecDepth 100000
namespace Go.Proofs.YthmhklmkgkfcpaaGreatDoor
open Go.RowKit
def nS (who:List (List Int))(k:Nat):Nat:=((who.take k).map List.length).sum
theorem aon {who:List (List Int)}{k:Nat}(h:k<who.length):nS who (k+1)=nS who k+(who.getD k []).length:=by
 unfold nS;rw[List.take_succ_eq_append_getElem h,List.map_append,List.sum_append,List.getD_eq_getElem?_getD,List.getElem?_eq_getElem h];simp
theorem arN {who:List (List Int)}{M:Nat}(hM:∀ k,k<who.length→(who.getD k []).length≤M):∀ k,k≤who.length→nS who k≤k*M
 | 0,_=>by simp[nS]
 | k+1,h=>by
  rw[aon (by omega),Nat.add_mul,Nat.one_mul]
  have:=arN hM k (by omega)
  have:=hM k (by omega)
  omega
def stS (t:List Nod)(secret info:List UInt8)(who:List (List Int))(k:Nat):St:=⟨pubR (derB (secS secret k) ab0),abU t secret info (secS secret k) (nS who k) (who.getD k [])⟩
theorem alL (t:List Nod)(secret info:List UInt8):∀ (l:List (List Int)) (s:List UInt8) (n k:Nat),k<l.length→(makeS t secret info s n l)[k]?=some ⟨pubR (derB (secS s k) ab0),abU t secret info (secS s k) (n+nS l k) (l.getD k [])⟩
 | [],_,_,_,h=>absurd h (Nat.not_lt_zero _)
 | who :: l,s,n,0,_=>by simp[nS];rfl
 | who :: l,s,n,k+1,h=>by
  show (makeS t secret info (derB s acp) (n+who.length) l)[k]?=_
  rw[alL t secret info l _ _ k (by simpa using h)]
  have e1:secS (derB s acp) k=secS s (k+1):=by
   have:=acZ s 1 k
   rw[Nat.add_comm] at this
   exact this.symm
  have e2:nS (who :: l) (k+1)=who.length+nS l k:=by simp[nS]
  rw[e1,e2,Nat.add_assoc]
  rfl
theorem amA {t:List Nod}{secret info:List UInt8}{who:List (List Int)}{k:Nat}(h:k<who.length):(makeS t secret info secret 0 who).take (k+1)=(makeS t secret info secret 0 who).take k++[stS t secret info who k]:=by
 have hl:=ac0 t secret info who secret 0;have hg:=alL t secret info who secret 0 k h;rw[List.take_succ_eq_append_getElem (by omega)];rw[List.getElem?_eq_getElem (by omega)] at hg;rw[Option.some.inj hg,Nat.zero_add];rfl
def seS (t:List Nod)(secret info s:List UInt8)(n:Nat)(l:List Int)(j:Nat):Se:=⟨ahw (ats t (l.getD j 0).toNat).pub (adg secret (n+j)),ahy (ats t (l.getD j 0).toNat).pub (adg secret (n+j)) info s⟩
theorem aiU (t:List Nod)(secret info s:List UInt8):∀ (l:List Int) (n j:Nat),j<l.length→(abU t secret info s n l)[j]?=some (seS t secret info s n l j)
 | [],_,_,h=>absurd h (Nat.not_lt_zero _)
 | y :: l,n,0,_=>rfl
 | y :: l,n,j+1,h=>by
  show (abU t secret info s (n+1) l)[j]?=_
  rw[aiU t secret info s l (n+1) j (by simpa using h)]
  unfold seS
  rw[show n+1+j=n+(j+1) by omega]
  rfl
theorem amB {t:List Nod}{secret info s:List UInt8}{n j:Nat}{l:List Int}(h:j<l.length):(abU t secret info s n l).take (j+1)=(abU t secret info s n l).take j++[seS t secret info s n l j]:=by
 have hl:=aci t secret info s l n;have hg:=aiU t secret info s l n j h;rw[List.take_succ_eq_append_getElem (by omega)];rw[List.getElem?_eq_getElem (by omega)] at hg;rw[Option.some.inj hg]
theorem amC {t:List Nod}{K i k:Nat}(hr:aab t K)(hi:i<2 ^ K)(hk:k<K):(whoF t i k).length≤2048∧∀ l∈whoF t i k,∃ y:Nat,l=(y:Int)∧y<t.length∧(ats t y).kind≠0:=by
 have hq:sq (i / 2 ^ k)<2 ^ (K - k):=by
  have h1:=afi (K:=K) (j:=0) (q:=i) (i:=k) (by simpa using hi) (by omega);rw[Nat.zero_add] at h1;obtain ⟨d,hd⟩:∃ d,K - k=d+1:=⟨K - k - 1,by omega⟩;rw[hd,aam] at h1 ⊢;generalize i / 2 ^ k=r at *;generalize 2 ^ d=D at *;unfold sq;split <;> omega
 have e:whoF t i k=resF t k (sq (i / 2 ^ k)):=anw hr (by omega) hq;rw[e];refine ⟨?_,arx hr k _ (by omega) hq⟩;have h1:=ak0 hr k _ (by omega) hq;have h2:=acd (K:=k+1) (by have:=hr.le;omega);have h3:=aam k;omega
theorem adh {t:List Nod}{K i a:Nat}(hr:aab t K)(hi:i<2 ^ K)(ha:a<(whoN t i K).length):((whoN t i K).getD a []).length≤2048∧∀ j,j<((whoN t i K).getD a []).length→∃ y:Nat,((whoN t i K).getD a []).getD j 0=(y:Int)∧y<t.length∧(ats t y).kind≠0:=by
 have hl:=(aax t i K).2;obtain ⟨k,k1,_,_,_,k5,_⟩:=apD (t:=t) (K:=K) (i:=i) (a:=a) [] [] [] (by omega);rw[k5];obtain ⟨f1,f2⟩:=amC hr hi k1;refine ⟨f1,fun j hj=>f2 _ ?_⟩;rw[List.getD_eq_getElem?_getD,List.getElem?_eq_getElem hj];exact List.getElem_mem hj
theorem numB4 {n:Nat}(h:n<4294967296):numB (n:Int) 4=be 4 n:=by
 unfold numB;rw[if_pos]
 ·rfl
 ·unfold aef
  refine ⟨by omega,by omega,by omega,?_⟩;show (n:Int)<4294967296
  omega
theorem ak1 (pub half info b:List UInt8):(adv pub half info b).length=b.length+32:=ad0 _ _ _ _
theorem ak2 (t:List Nod)(K i:Nat){secret:List UInt8}(seed info:List UInt8)(hs:secret.length=32)(k j:Nat):
  (seAt (stAt (aaO t K i seed secret info).step k).fors j).half.length≤64∧(seAt (stAt (aaO t K i seed secret info).step k).fors j).b.length≤64:=by
 have hz:∀ l:List Se,l.length≤j→(seAt l j).half.length≤64∧(seAt l j).b.length≤64:=fun l h=>by
  have e:seAt l j=⟨[],[]⟩:=by unfold seAt;rw[List.getD_eq_getElem?_getD,List.getElem?_eq_none h];rfl
  rw[e];exact ⟨Nat.zero_le _,Nat.zero_le _⟩
 by_cases hk:k<(whoN t i K).length
 ·obtain ⟨n',e⟩:=aee t secret info (whoN t i K) secret 0 k hk
  show (seAt (stAt (makeS t secret info secret 0 (whoN t i K)) k).fors j).half.length≤64∧(seAt (stAt (makeS t secret info secret 0 (whoN t i K)) k).fors j).b.length≤64
  rw[e];by_cases hj:j<((whoN t i K).getD k []).length
  ·have e2:seAt (abU t secret info (secS secret k) n' ((whoN t i K).getD k [])) j=seS t secret info (secS secret k) n' ((whoN t i K).getD k []) j:=by
    unfold seAt;rw[List.getD_eq_getElem?_getD,aiU _ _ _ _ _ _ _ hj];rfl
   rw[e2];refine ⟨?_,?_⟩
   ·show (ahw _ _).length≤64
    unfold ahw;split
    ·rw[aaG];decide
    ·exact Nat.zero_le _
   ·show (ahy _ _ _ _).length≤64
    unfold ahy;split
    ·rw[ak1,acu hs];decide
    ·exact Nat.zero_le _
  ·exact hz _ (by rw[aci];omega)
 ·have e:stAt (aaO t K i seed secret info).step k=⟨[],[]⟩:=by
   unfold stAt;rw[List.getD_eq_getElem?_getD,List.getElem?_eq_none (by have:=(acM t K i seed secret info).1;omega)];rfl
  rw[e];exact hz [] (Nat.zero_le _)
theorem aig {t:List Nod}{K i:Nat}{secret:List UInt8}(seed info:List UInt8)(hr:aab t K)(hi:i<2 ^ K)(hs:secret.length=32):
  (∀ k j,(seAt (stAt (aaO t K i seed secret info).step k).fors j).b.length≤1600)∧∀ j,j<(aaO t K i seed secret info).step.length→(stAt (aaO t K i seed secret info).step j).pub.length≤10000∧(stAt (aaO t K i seed secret info).step j).fors.length≤10000∧∀ k,k<(stAt (aaO t K i seed secret info).step j).fors.length→(seAt (stAt (aaO t K i seed secret info).step j).fors k).half.length≤10000∧(seAt (stAt (aaO t K i seed secret info).step j).fors k).b.length≤10000:=by
 have hf:=acM t K i seed secret info;refine ⟨fun k j=>Nat.le_trans (ak2 t K i seed info hs k j).2 (by decide),fun j hj=>⟨?_,?_,fun k _=>⟨Nat.le_trans (ak2 t K i seed info hs j k).1 (by decide),Nat.le_trans (ak2 t K i seed info hs j k).2 (by decide)⟩⟩⟩
 ·rw[(hf.2.2 j (by rw[← hf.1];exact hj)).2];decide
 ·rw[(hf.2.2 j (by rw[← hf.1];exact hj)).1]
  exact Nat.le_trans (adh (a:=j) hr hi (by rw[← hf.1];exact hj)).1 (by decide)
theorem aeC (ar6:Value)(t:List Nod)(i:Int)(w:World)(hu:NL w ar6 t)(hl:t.length≤100000):
  Calls Tryz.prog 25 #[ar6,.int .i64 i] w fun e w'=>e=.returned (.bool (decide (aar t i)))∧w=w':=by
 have HL:=Lib.hid (acz ar6 t w hu hl);have hlm:=aez (t:=t) hl;obtain ⟨a,c,rfl,p1,s1⟩:=hu.shape;by_cases h0:0≤i
 ·obtain ⟨k,rfl⟩:=Int.eq_ofNat_of_zero_le h0
  by_cases h1:k<lvs t
  ·have hk2:=aiL h1
   obtain ⟨b,off,rfl,hb,hc⟩:=hu.at (2*k) hk2;obtain ⟨p,q,h,hn⟩:=hc (2*k) hk2;have c1:=hn.kind;have i2:IntKind.i64.wrap (2*(k:Int))=((2*k:Nat):Int):=by rw[IntWalk.i64_in _ (by omega)];omega
   have i3:((2*k:Nat):Int)<(t.length:Int):=by omega
   have i4:(k:Int)<((lvs t:Nat):Int):=by omega
   have e:decide (aar t (k:Int))=decide ((ats t (2*k)).kind=1):=decide_eq_decide.2 ⟨fun h=>by have:=h.2.2;rwa [Int.toNat_natCast] at this,fun h=>⟨by omega,by omega,by rw[Int.toNat_natCast];exact h⟩⟩;rw[e];generalize (ats t (2*k)).kind=X at *;generalize lvs t=L at *;generalize t.length=N at *;generalize 2*k=K2 at *;clear hc hn hu e hb hk2;go_enter Tryz.func25,Tryz.ntmps25;go_wp2_with fail;refine HL.out.mono ?_;rintro _ _ ⟨rfl,rfl⟩;by_cases hx:X=1
   ·subst hx
    go_wp2_with fail;go_ret;exact ⟨rfl,rfl⟩
   ·have hxb:(X==1)=false:=beq_eq_false_iff_ne.2 hx
    have HD:=Lib.hid (decide_eq_false hx);go_wp2_with fail;go_ret;exact ⟨by rw[HD.out] <;> first | rfl | simp[hxb],rfl⟩
  ·have e:decide (aar t (k:Int))=false:=decide_eq_false fun h=>by have:=h.2.1;omega
   have i4:¬(k:Int)<((lvs t:Nat):Int):=by omega
   rw[e];generalize lvs t=L at *;generalize t.length=N at *;clear hu e;go_enter Tryz.func25,Tryz.ntmps25;go_wp2_with fail;refine HL.out.mono ?_;rintro _ _ ⟨rfl,rfl⟩;go_wp2_with fail;go_ret;exact ⟨rfl,rfl⟩
 ·have e:decide (aar t i)=false:=decide_eq_false fun h=>h0 h.1
  rw[e];generalize t.length=N at *;clear hu e HL hlm hl;go_enter Tryz.func25,Tryz.ntmps25;go_wp2_with fail;go_ret;exact ⟨rfl,rfl⟩
theorem aoA {own:List Sd}{x:Int}{k:Nat}(hk:k<own.length)(h:(sdAt own k).node=x)(hp:∀ j,j<k→(sdAt own j).node≠x):aaM own x=(sdAt own k).seed:=by
 induction own generalizing k with
 | nil=>exact absurd hk (Nat.not_lt_zero _)
 | cons s l ih=>
  unfold aaM
  cases k with
  | zero=>rw[if_pos (show s.node=x from h)];rfl
  | succ k=>
   rw[if_neg (show ¬s.node=x from hp 0 (Nat.succ_pos _))]
   exact ih (by simpa using hk) h fun j hj=>hp (j+1) (Nat.succ_lt_succ hj)
theorem amU {own:List Sd}{x:Int}(hp:∀ j,j<own.length→(sdAt own j).node≠x):aaM own x=[]:=by
 induction own with
 | nil=>rfl
 | cons s l ih=>
  unfold aaM
  rw[if_neg (show ¬s.node=x from hp 0 (by simp))]
  exact ih fun j hj=>hp (j+1) (by simpa using hj)
theorem SL.shape {w:World}{v:Value}{l:List Sd}(h:SL w v l):∃ a c,v=.slice a l.length c∧l.length≤c∧c≤maxLen:=SE.shape h
theorem ai8 (ar6:Value)(own:List Sd)(x:Int)(w:World)(hu:SL w ar6 own)(hl:own.length≤100000):
  Calls Tryz.prog 51 #[ar6,.int .i64 x] w fun e w'=>(∃ r,e=.returned r∧Rd w r (aaM own x))∧w=w':=by
 obtain ⟨a,c,rfl,p1,s1⟩:=hu.shape;have HU:=Lib.hid hu;have HY:Hid (∀ k,k<own.length→(sdAt own k).node=x→(∀ j,j<k→(sdAt own j).node≠x)→aaM own x=(sdAt own k).seed):=fun k hk h hp=>aoA hk h hp
 have HN:Hid ((∀ j,j<own.length→(sdAt own j).node≠x)→aaM own x=[]):=fun h=>amU h
 generalize aaM own x=FV at *;obtain ⟨N,hN⟩:∃ N,own.length=N:=⟨_,rfl⟩;rw[hN] at p1 HU HY HN hl ⊢;have HN2:=Lib.hid hN;clear hu hN;go_enter Tryz.func51,Tryz.ntmps51;go_wp2_with fail;go_loop [5] (fun i=>∃ k:Nat,k≤N∧i=.int .i64 (k:Int)∧(∀ j,j<k→(sdAt own j).node≠x)) (fun i=>(N - (intOf i).toNat))
 case atStart=>exact ⟨0,Nat.zero_le _,rfl,fun t h=>by omega⟩
 case round=>
  obtain ⟨k,hk,rfl,hpre⟩:=hrel;by_cases hlt:k<N
  ·obtain ⟨b,off,cc,q,e,hb,c1,c2,hq⟩:=SL.node (i:=k) HU.out (by rw[HN2.out];exact hlt)
   rw[HN2.out] at e;simp only[Value.slice.injEq] at e;obtain ⟨rfl,_,rfl⟩:=e;have i1:IntKind.i64.wrap ((k:Int)+1)=(k:Int)+1:=IntWalk.i64_in _ (by omega);have i3:(k:Int)<(N:Int):=by omega
   have HYK:=Lib.hid (HY.out k hlt);have HPR:=Lib.hid hpre;have HQ:=Lib.hid hq;clear HY hpre hq hb;obtain ⟨aq,nq,cq,rfl⟩:=aac HQ.out;by_cases h1:(sdAt own k).node=x
   ·have e2:=HYK.out h1 HPR.out
    have HF:=Lib.hid e2;have hbe:((sdAt own k).node==x)=true:=by rw[h1];exact beq_self_eq_true _
    generalize (sdAt own k).node=X at *;clear HYK HPR e2;subst h1;go_wp2_with fail;go_ret;exact ⟨⟨_,rfl,by rw[HF.out];exact HQ.out⟩,rfl⟩
   ·have HP:Hid (∀ j,j<k+1→(sdAt own j).node≠x):=fun j hj=>by
     rcases Nat.lt_or_eq_of_le (Nat.lt_succ_iff.1 hj) with h3 | h3
     ·exact HPR.out j h3
     ·rw[h3];exact h1
    have hbe:((sdAt own k).node==x)=false:=beq_eq_false_iff_ne.2 h1;generalize (sdAt own k).node=X at *;clear HYK HPR;go_wp2_with fail;go_round
    case rel=>exact ⟨k+1,by omega,by go_num,HP.out⟩
    case measure=>simp[intOf];omega
  ·obtain rfl:k=N:=by omega
   have HF:=Lib.hid (HN.out hpre);clear HN hpre HY;go_wp2_with fail;go_ret;exact ⟨⟨_,rfl,by rw[HF.out];exact aaQ _⟩,rfl⟩
theorem alc {K i m:Nat}(h:m<K):(aa6 K 0 i).getD m 0=nd m (sq (i / 2 ^ m)):=by
 unfold aa6;rw[List.getD_eq_getElem?_getD,List.getElem?_map,List.getElem?_range (by omega)];simp
theorem akc {K i m:Nat}(h:m<K):(aag K 0 i).getD m 0=nd (m+1) (i / 2 ^ (m+1)):=by
 unfold aag;rw[List.getD_eq_getElem?_getD,List.getElem?_map,List.getElem?_range (by omega)];simp[Nat.add_comm]
theorem ad8 (K i:Nat):(aag K 0 i).length=K:=by unfold aag;simp
theorem ald (K i:Nat):(aa6 K 0 i).length=K:=by unfold aa6;simp
theorem NL.node {w:World}{v:Value}{t:List Nod}(h:NL w v t){x:Nat}(hx:x<t.length):
  ∃ b off c p ar6 q,v=.slice (some ⟨b,off,none⟩) t.length c∧NAt w b (off+x*5) (ats t x) p ar6 q:=by
 obtain ⟨a,c,rfl,h1,h2⟩:=h.shape;obtain ⟨b,off,rfl,_,hi⟩:=h.at x hx;obtain ⟨p,ar6,q,hn⟩:=hi x hx;exact ⟨b,off,c,p,ar6,q,rfl,hn⟩
theorem aa3.lt {t:List Nod}{K:Nat}(h:aa3 t K){j q:Nat}(hj:j≤K)(hq:q<2 ^ (K - j)):nd j q<t.length∧nd j q≤2046:=by
 have h1:=ahq hj hq;have h2:=abn h.le hj hq;rw[h.len];exact ⟨h1,h2.1⟩
theorem arT {K j q:Nat}(hj:j+1≤K)(hq:q<2 ^ (K - (j+1))):2*q<2 ^ (K - j)∧2*q+1<2 ^ (K - j):=by
 have e:K - j=(K - (j+1))+1:=by omega
 rw[e,aam];omega
theorem aa3.at {t:List Nod}{K:Nat}(h:aa3 t K){x:Nat}(hx:x<t.length):∃ j q,x=nd j q∧j≤K∧q<2 ^ (K - j):=ait K x (by rw[← h.len];exact hx)
theorem alU (p:List St):∀ (l:List Nat) (k x:Nat) (t:List Nod),setS p k (l++[x]) t=(setS p k l t).set x ⟨2,0,(stAt p (k+l.length)).pub,[],[]⟩
 | [],k,x,t=>rfl
 | y :: l,k,x,t=>by
  show setS p (k+1) (l++[x]) _=(setS p (k+1) l _).set x _
  rw[alU p l (k+1) x,show k+1+l.length=k+(y :: l).length by simp;omega]
theorem ard (p:List St)(l:List Nat)(t:List Nod){j:Nat}(h:j<l.length):setS p 0 (l.take (j+1)) t=(setS p 0 (l.take j) t).set (l.getD j 0) ⟨2,0,(stAt p j).pub,[],[]⟩:=by
 rw[List.take_succ_eq_append_getElem h,alU,List.length_take,Nat.min_eq_left (by omega),Nat.zero_add,List.getD_eq_getElem?_getD,List.getElem?_eq_getElem h];rfl
theorem aoC {p:List St}{t:List Nod}{K i:Nat}(hr:aab t K)(hT:aa3 t K)(hk:(ats t (2*i)).kind=1){pub:List UInt8}(hp:pub.length=32)(hs:∀ a,a<(aaa t i K).length→(stAt p a).pub.length=32):
  aa3 (setS p 0 (aaa t i K) (updT t i pub)) K:=by
 have hlt:=aab.lt_of (t:=t) (x:=2*i) (by rw[hk];decide);have hl2:=hr.len2;have hi:i<2 ^ K:=by omega
 have hA:=hr.updAt hi pub;have hL:=aab.updLen (t:=t) i pub;have hm:∀ x∈aaa t i K,x<(updT t i pub).length:=fun x hx=>by rw[hL,hr.len];exact abm hi (aaw hx)
 have hTU:aa3 (updT t i pub) K:=by
  refine ⟨hr.le,by rw[hL,hr.len],fun y=>?_,fun y hy=>?_⟩
  ·rw[hA]
   split
   ·have hn:=(hT.node (2*i)).name
    exact ⟨.inr (.inl rfl),hn,by show pub.length≤40;omega,Nat.zero_le _,Nat.zero_le _,fun i hi=>by cases hi⟩
   ·split
    ·exact ado.blank
    ·exact hT.node y
  ·rw[hA] at hy
   split at hy
   ·cases hy
   ·split at hy
    ·cases hy
    ·exact hT.par y hy
 refine hTU.over (ae2 _ _ _ _) fun y=>?_
 by_cases hy:y∈aaa t i K
 ·obtain ⟨a,ha,rfl⟩:=List.getElem_of_mem hy
  have e:=aiN p (aaa t i K) 0 (updT t i pub) (abg t i K) hm a ha;rw[Nat.zero_add,List.getD_eq_getElem?_getD,List.getElem?_eq_getElem ha] at e;exact .inr ⟨aaP (aaw hy),.inr ⟨_,hs a ha,e⟩⟩
 ·exact .inl (ae3 _ _ _ _ _ hm hy)
def hldS (own:Sd→Prop)(s:List UInt8)(xs:List Nat)(n:Nat):Sd→Prop:=fun y=>own y∨∃ a,a<n∧y=⟨((xs.getD a 0:Nat):Int),aaU s a⟩
theorem akd {own:Sd→Prop}{s:List UInt8}{xs:List Nat}(y:Sd):hldS own s xs 0 y↔own y:=by
 unfold hldS;constructor
 ·rintro (h | ⟨a,h,_⟩)
  ·exact h
  ·omega
 ·exact .inl
theorem ake {own:Sd→Prop}{s:List UInt8}{xs:List Nat}{n:Nat}(hn:xs.Nodup)(hd:∀ a,own a→∀ x∈xs,a.node≠((x:Nat):Int))(h:n<xs.length)(y:Sd):
  hldS own s xs (n+1) y↔(y=⟨((xs.getD n 0:Nat):Int),aaU s n⟩∨(hldS own s xs n y∧y.node≠((xs.getD n 0:Nat):Int))):=by
 have hg:∀ a,(ha:a<xs.length)→xs.getD a 0=xs[a]:=fun a ha=>by rw[List.getD_eq_getElem?_getD,List.getElem?_eq_getElem ha];rfl
 unfold hldS;constructor
 ·rintro (h1 | ⟨a,h1,rfl⟩)
  ·refine .inr ⟨.inl h1,?_⟩
   rw[hg n h];exact hd y h1 _ (List.getElem_mem h)
  ·by_cases e:a=n
   ·subst e;exact .inl rfl
   ·refine .inr ⟨.inr ⟨a,by omega,rfl⟩,?_⟩
    rw[hg n h,hg a (by omega)];intro e2;have e3:xs[a]'(by omega)=xs[n]:=by dsimp only at e2;omega
    exact e ((List.getElem_inj hn).1 e3)
 ·rintro (h1 | ⟨h1 | ⟨a,h1,h2⟩,_⟩)
  ·exact .inr ⟨n,by omega,h1⟩
  ·exact .inl h1
  ·exact .inr ⟨a,by omega,h2⟩
theorem akf {own:List Sd}{s:List UInt8}{xs:List Nat}(hn:xs.Nodup)(h:srt own)(hd:∀ a∈own,∀ x∈xs,a.node≠((x:Nat):Int)){r:List Sd}(hr:srt r)
 (hm:∀ y,y∈r↔hldS (fun y=>y∈own) s xs xs.length y):r=ownS own s xs:=apG hn h hd hr hm
open Classical in
noncomputable def ahe (own:List Sd) (xs:List Nat):List Sd:=own.filter fun s=>decide (¬∃ x∈xs,((x:Nat):Int)=s.node)
theorem aoD (own:List Sd):ahe own []=own:=by
 unfold ahe;rw[List.filter_eq_self];intro a _;simp
theorem aea {own:List Sd}{xs:List Nat}{y:Sd}:y∈ahe own xs↔y∈own∧∀ x∈xs,((x:Nat):Int)≠y.node:=by
 unfold ahe;rw[List.mem_filter];simp
theorem amW {own:List Sd}{xs:List Nat}{n:Nat}(h:n<xs.length)(y:Sd):y∈ahe own (xs.take (n+1))↔(y∈ahe own (xs.take n)∧y.node≠((xs.getD n 0:Nat):Int)):=by
 rw[aea,aea,List.take_succ_eq_append_getElem h,List.getD_eq_getElem?_getD,List.getElem?_eq_getElem h];constructor
 ·rintro ⟨h1,h2⟩
  exact ⟨⟨h1,fun x hx=>h2 x (List.mem_append.2 (.inl hx))⟩,fun e=>h2 _ (List.mem_append.2 (.inr (List.mem_singleton.2 rfl))) e.symm⟩
 ·rintro ⟨⟨h1,h2⟩,h3⟩
  refine ⟨h1,fun x hx=>?_⟩;rcases List.mem_append.1 hx with hx | hx
  ·exact h2 x hx
  ·rw[List.mem_singleton] at hx
   subst hx;exact fun e=>h3 e.symm
theorem aoE {own:List Sd}(h:srt own)(xs:List Nat):srt (ahe own xs):=List.Pairwise.sublist List.filter_sublist h
theorem adi {own:List Sd}{K i:Nat}:ahe own (aag K 0 i)=ad3 K i own:=rfl
def clrS (l:List Nat)(t:List Nod):List Nod:=l.foldl (fun o x=>o.set x aao) t
theorem ajb:∀ (l:List Nat) (t:List Nod),(clrS l t).length=t.length
 | [],_=>rfl
 | x :: l,t=>(ajb l (t.set x aao)).trans (List.length_set ..)
theorem aoF {l:List Nat}{j:Nat}(h:j<l.length)(t:List Nod):clrS (l.take (j+1)) t=(clrS (l.take j) t).set (l.getD j 0) aao:=by
 unfold clrS;rw[List.take_succ_eq_append_getElem h,List.foldl_append,List.getD_eq_getElem?_getD,List.getElem?_eq_getElem h];rfl
theorem aoG:∀ (l:List Nat) (t:List Nod) (y:Nat),(∀ x∈l,x<t.length)→ats (clrS l t) y=if y∈l then aao else ats t y
 | [],_,_,_=>rfl
 | x :: l,t,y,h=>by
  show ats (clrS l (t.set x aao)) y=_
  rw[aoG l _ y (fun z hz=>by rw[List.length_set];exact h z (by simp[hz])),abl _ _ _ _ (h x (by simp))]
  by_cases e1:y∈l
  ·rw[if_pos e1,if_pos (by simp[e1])]
  ·rw[if_neg e1]
   by_cases e2:y=x
   ·rw[if_pos e2,if_pos (by simp[e2])]
   ·rw[if_neg e2,if_neg (by simp[e1,e2])]
theorem apZ {t:List Nod}{K i:Nat}(hr:aab t K)(hi:i<2 ^ K)(pub:List UInt8):clrS (aag K 0 i) (t.set (2*i) (aah (ats t (2*i)).name pub))=updT t i pub:=by
 have hl2:=hr.len2;have hlt:2*i<t.length:=by omega
 refine anp (by rw[ajb,List.length_set,aab.updLen]) fun y=>?_
 rw[aoG _ _ _ (fun x hx=>by rw[List.length_set,hr.len];exact abm hi hx),abl _ _ _ _ hlt,hr.updAt hi];by_cases e:y=2*i
 ·subst e
  rw[if_neg (fun h=>by have:=aaP h;omega),if_pos rfl,if_pos rfl]
 ·rw[if_neg e,if_neg e]
theorem amX {p:List St}{t:List Nod}{K i:Nat}(hr:aab t K)(hk:(ats t (2*i)).kind=1){pub:List UInt8}(hp:pub.length=32)(hs:∀ a,a<(aaa t i K).length→(stAt p a).pub.length=32):
  aab (setS p 0 (aaa t i K) (updT t i pub)) K:=by
 have hlt:=aab.lt_of (t:=t) (x:=2*i) (by rw[hk];decide);have hl2:=hr.len2;have hi:i<2 ^ K:=by omega
 have hL:=aab.updLen (t:=t) i pub;have hm:∀ x∈aaa t i K,x<(updT t i pub).length:=fun x hx=>by rw[hL,hr.len];exact abm hi (aaw hx)
 refine (hr.upd hk hp).over (ae2 _ _ _ _) fun y=>?_
 by_cases hy:y∈aaa t i K
 ·obtain ⟨a,ha,rfl⟩:=List.getElem_of_mem hy
  have e:=aiN p (aaa t i K) 0 (updT t i pub) (abg t i K) hm a ha;rw[Nat.zero_add,List.getD_eq_getElem?_getD,List.getElem?_eq_getElem ha] at e;exact .inr ⟨aaP (aaw hy),.inr ⟨_,hs a ha,e⟩⟩
 ·exact .inl (ae3 _ _ _ _ _ hm hy)
def am6 (own:List Sd):Prop:=own.length≤20∧∀ k,k<own.length→(sdAt own k).seed.length≤40
theorem ahm (ar6:Value)(own:List Sd)(w:World)(hu:SL w ar6 own):Calls Tryz.prog 11 #[ar6] w fun e w'=>aaj e (am6 own)∧w=w':=by
 obtain ⟨a,c,rfl,p1,s1⟩:=hu.shape;have HU:=Lib.hid hu;have HNO:Hid (20<own.length→¬am6 own):=fun h h2=>by have:=h2.1;omega
 have HN2:Hid (∀ k,k<own.length→40<(sdAt own k).seed.length→¬am6 own):=fun k hk h h2=>by have:=h2.2 k hk;omega
 have HYES:Hid (own.length≤20→(∀ k,k<own.length→(sdAt own k).seed.length≤40)→am6 own):=fun h1 h2=>⟨h1,h2⟩
 generalize am6 own=P at *;obtain ⟨N,hN⟩:∃ N,own.length=N:=⟨_,rfl⟩;have HN:=Lib.hid hN;rw[hN] at p1 HU HNO HN2 HYES ⊢;clear hu hN;by_cases h20:20<N
 ·have HB:=Lib.hid (HNO.out h20)
  have h3:(20:Int)<(N:Int):=by omega
  clear HNO HN2 HYES;go_enter Tryz.func11,Tryz.ntmps11;go_wp2_with fail;go_ret;exact ⟨aaj.no HB.out,rfl⟩
 ·have h3:¬(20:Int)<(N:Int):=by omega
  go_enter Tryz.func11,Tryz.ntmps11;go_wp2_with fail;go_loop [3] (fun i=>∃ k:Nat,k≤N∧i=.int .i64 (k:Int)∧(∀ j,j<k→(sdAt own j).seed.length≤40)) (fun i=>(N - (intOf i).toNat))
  case atStart=>exact ⟨0,Nat.zero_le _,rfl,fun t h=>by omega⟩
  case round=>
   obtain ⟨k,hk,rfl,hpre⟩:=hrel;have HPR:=Lib.hid hpre;clear hpre;by_cases hlt:k<N
   ·obtain ⟨b,off,cc,q,e,hb,c1,c2,hq⟩:=SL.node (i:=k) HU.out (by rw[HN.out];exact hlt)
    rw[HN.out] at e;simp only[Value.slice.injEq] at e;obtain ⟨rfl,_,rfl⟩:=e;have i1:IntKind.i64.wrap ((k:Int)+1)=(k:Int)+1:=IntWalk.i64_in _ (by omega);have i3:(k:Int)<(N:Int):=by omega
    have HNK:=Lib.hid (HN2.out k hlt);obtain ⟨aq,cq,rfl,_,_⟩:=hq.shape;generalize hL:(sdAt own k).seed.length=L at *;have HLL:=Lib.hid hL;clear hL hq;by_cases h40:40<L
    ·have HB:=Lib.hid (HNK.out h40)
     have h5:(40:Int)<(L:Int):=by omega
     clear HNO HN2 HYES HNK;go_wp2_with fail;go_ret;exact ⟨aaj.no HB.out,rfl⟩
    ·have h5:¬(40:Int)<(L:Int):=by omega
     have HP:Hid (∀ j,j<k+1→(sdAt own j).seed.length≤40):=fun j hj=>by
      rcases Nat.lt_or_eq_of_le (Nat.lt_succ_iff.1 hj) with h3 | h3
      ·exact HPR.out j h3
      ·rw[h3,HLL.out];omega
     clear HNO HN2 HYES HNK;go_wp2_with fail;go_round
     case rel=>exact ⟨k+1,by omega,by go_num,HP.out⟩
     case measure=>simp[intOf];omega
   ·obtain rfl:k=N:=by omega
    have HB:=Lib.hid (HYES.out (by omega) HPR.out);clear HNO HN2 HYES;go_wp2_with fail;go_ret;exact ⟨aaj.yes HB.out,rfl⟩
theorem ajh {own:List Sd}{info:List UInt8}:∀ (who:List Int) (f:List Se) (k:Nat),k≤who.length→(∀ j,j<k→(aaM own (who.getD j 0)).length=0)→abb own info who f=abb own info (who.drop k) (f.drop k)
 | who,f,0,_,_=>by rw[List.drop_zero,List.drop_zero]
 | [],f,k+1,h,_=>absurd h (Nat.not_succ_le_zero _)
 | y :: l,f,k+1,h,hp=>by
  have h0:(aaM own y).length=0:=hp 0 (Nat.succ_pos _)
  have e:abb own info (y :: l) f=abb own info l f.tail:=by
   show (if (aaM own y).length=0 then _ else _)=_
   rw[if_pos h0]
  rw[e,ajh l f.tail k (Nat.le_of_succ_le_succ h) fun j hj=>hp (j+1) (Nat.succ_lt_succ hj)]
  congr 1
  cases f with
  | nil=>simp
  | cons a f=>rfl
theorem aoL {own:List Sd}{info:List UInt8}{who:List Int}{f:List Se}{k:Nat}(hk:k<who.length)(hl:f.length=who.length)(hp:∀ j,j<k→(aaM own (who.getD j 0)).length=0)(h:(aaM own (who.getD k 0)).length≠0):
  abb own info who f=if (seAt f k).half.length≠32 then ([],5)
   else if unE (aaM own (who.getD k 0)) (seAt f k).half info (seAt f k).b≠0 then ([],unE (aaM own (who.getD k 0)) (seAt f k).half info (seAt f k).b)
   else if (unR (aaM own (who.getD k 0)) (seAt f k).half info (seAt f k).b).length≠32 then ([],2)
   else (unR (aaM own (who.getD k 0)) (seAt f k).half info (seAt f k).b,0):=by
 rw[ajh who f k (by omega) hp];have e1:who.drop k=who.getD k 0 :: who.drop (k+1):=by
  rw[List.drop_eq_getElem_cons hk,List.getD_eq_getElem?_getD,List.getElem?_eq_getElem hk];rfl
 have e2:f.drop k=seAt f k :: f.drop (k+1):=by
  unfold seAt;rw[List.drop_eq_getElem_cons (by omega),List.getD_eq_getElem?_getD,List.getElem?_eq_getElem (by omega)];rfl
 rw[e1,e2];show (if (aaM own (who.getD k 0)).length=0 then _ else _)=_
 rw[if_neg h];rfl
theorem am7 {own:List Sd}{info:List UInt8}{who:List Int}{f:List Se}(hp:∀ j,j<who.length→(aaM own (who.getD j 0)).length=0):abb own info who f=([],5):=by
 rw[ajh who f who.length (Nat.le_refl _) hp,List.drop_length];rfl
end Go.Proofs.YthmhklmkgkfcpaaGreatDoor
