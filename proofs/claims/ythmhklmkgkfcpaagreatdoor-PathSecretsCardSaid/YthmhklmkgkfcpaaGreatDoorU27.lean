import Derived.Test.YthmhklmkgkfcpaaGreatDoorU19
import Derived.Test.YthmhklmkgkfcpaaGreatDoorU20
set_option linter.unusedVariables false
set_option linter.unusedSimpArgs false
set_option maxHeartbeats 8000000
set_option maxRecDepth 100000
namespace Go.Proofs.YthmhklmkgkfcpaaGreatDoor
open Go.RowKit
theorem aml {l:List Int}(h:l.Pairwise (·<·))(hl:∀ i∈l,0≤i∧i<1024):l.length≤1024:=by
 have key:∀ k (hk:k<l.length),(k:Int)≤l[k]:=by
  intro k;induction k with
  | zero=>intro hk;have:=(hl _ (List.getElem_mem hk)).1;omega
  | succ k ih=>
   intro hk;have h1:=ih (by omega);have h2:=(List.pairwise_iff_getElem.1 h) k (k+1) (by omega) hk (by omega);omega
 by_cases h0:l.length=0
 ·omega
 ·have h1:=key (l.length - 1) (by omega)
  have h2:=(hl _ (List.getElem_mem (show l.length - 1<l.length by omega))).2;omega
theorem aab.un_len {t:List Nod}{K:Nat}(h:aab t K)(x:Nat):(ats t x).un.length≤1024:=by
 by_cases hx:x<t.length
 ·obtain ⟨l1,l2,l3,l4⟩:=anX h.le h.len hx
  rcases h.okA x with h1 | ⟨h1,h2,h3,h4,h5⟩
  ·rw[h1];exact Nat.zero_le _
  ·by_cases e:(ats t x).kind=1
   ·rw[h4 e];exact Nat.zero_le _
   ·have h6:=(h5 (by omega)).2
    exact aml h6.1 fun i hi=>by have:=h6.2 i hi;omega
 ·rw[acJ (by omega)];exact Nat.zero_le _
theorem ajK {t u:List Nod}(h:t.length=u.length)(i:Nat):aau t i=aau u i:=by
 unfold aau lgT lvs;rw[h]
theorem apk {t:List Nod}{k:Nat}(h1:k≤lvs t)(h2:k<lvs t→(ats t (2*k)).kind=0)(h3:∀ j,j<k→(ats t (2*j)).kind≠0):gapN t=k:=ara h1 h2 h3
theorem apl (t:List Nod)(m:Nat):(t++List.replicate m aan)++[aan]=t++List.replicate (m+1) aan:=by
 rw[List.append_assoc,List.replicate_succ']
theorem an5 (i:Nat):ats [aan] i=aan:=by
 cases i with
 | zero=>rfl
 | succ i=>exact acJ (by simp)
theorem an6 {t:List Nod}{name:Int}{pub:List UInt8}(e:Int)(he:addE t name pub=e)(hne:e≠0):addV t name pub=t∧addI t name pub=0:=by
 unfold addV addI;rw[he,if_neg hne,if_neg hne];exact ⟨rfl,rfl⟩
theorem akJ (u v:Value)(t:List Nod)(K:Nat)(name:Int)(pub:List UInt8)(w:World)(hu:NL w u t)(hv:Rd w v pub)(hr:aab t K):
  Calls Tryz.prog 38 #[u,.int .i64 name,v] w fun e w'=>(∃ r,e=.returned (.tuple #[r,.int .i64 (addI t name pub),.int .i64 (addE t name pub)])∧NL w' r (addV t name pub)∧(addE t name pub=0→NO 81 w' w.heap.size r (addV t name pub)))∧Kp w w':=by
 have S:=anW;obtain ⟨z1,z2,z3⟩:=hr.small;have HM:=Lib.hid (aew name v pub w hv);have HF:=Lib.hid (akB u t name w hu (by omega));have HL:=Lib.hid (fun W (hW:Kp w W)=>ac7 u t W (hu.kp hW) (by omega));have HU:=Lib.hid hu;obtain ⟨ap,cp,rfl,_,_⟩:=hv.shape;obtain ⟨a,c,rfl,p1,s1⟩:=hu.shape;by_cases hm:mayP name pub
 ·rw[decide_eq_true hm] at HM
  by_cases hf:agm t name=true
  ·have e1:addE t name pub=12:=by unfold addE;rw[if_pos hm,if_pos hf]
   obtain ⟨e2,e3⟩:=an6 12 e1 (by decide);rw[e1,e2,e3];rw[hf] at HF;clear hu hv hr hm hf e1 e2 e3 HL z2;go_enter Tryz.func38,Tryz.ntmps38;go_wp2_with fail;refine HM.out.mono ?_;rintro _ _ ⟨rfl,rfl⟩;go_wp2_with fail;refine HF.out.mono ?_;rintro _ _ ⟨rfl,rfl⟩;go_wp2_with fail;go_ret3
   exact ⟨⟨_,rfl,HU.out,fun h=>absurd h (by decide)⟩,Kp.refl _⟩
  ·have hf2:agm t name=false:=by rw[Bool.eq_false_iff];exact hf
   rw[hf2] at HF;have H2:=Lib.hid (fun k h=>aix (t:=t) (k:=k) h);have HGAP:=Lib.hid (fun k h1 h2 h3=>apk (t:=t) (k:=k) h1 h2 h3);have hlv:=hr.lv;have hlv2:lvs t≤1024:=by have:=acc hr.le;omega
   have hgle:=ana t;have HERR:Hid (gapN t=1024→addE t name pub=4∧addV t name pub=t∧addI t name pub=0):=fun hg=>by
    have e1:addE t name pub=4:=by unfold addE;rw[if_pos hm,hf2,if_pos hg];rfl
    obtain ⟨e2,e3⟩:=an6 4 e1 (by decide);exact ⟨e1,e2,e3⟩
   have HOK:Hid (gapN t≠1024→addE t name pub=0∧addV t name pub=addT t name pub∧addI t name pub=((gapN t:Nat):Int)):=fun hg=>by
    have e1:addE t name pub=0:=by unfold addE;rw[if_pos hm,hf2,if_neg hg];rfl
    refine ⟨e1,?_,?_⟩
    ·unfold addV;rw[e1];rfl
    ·unfold addI;rw[e1];rfl
   have HR:=Lib.hid hr;have hV:=Lib.hid hv;obtain ⟨N,hN⟩:∃ N,t.length=N:=⟨_,rfl⟩;have hNh:=Lib.hid hN;rw[hN] at p1 HL HF HU H2 z1 z2 z3 ⊢;obtain ⟨L,hL⟩:∃ L,lvs t=L:=⟨_,rfl⟩;have hLh:=Lib.hid hL;rw[hL] at HL H2 HGAP hlv hlv2 hgle;have hlvh:=Lib.hid hlv;have z2h:=Lib.hid z2;clear hu hv hr hm hf hf2 hN hL hlv z2;go_enter Tryz.func38,Tryz.ntmps38;go_wp2_with fail;refine HM.out.mono ?_;rintro _ _ ⟨rfl,rfl⟩;go_wp2_with fail;refine HF.out.mono ?_;rintro _ _ ⟨rfl,rfl⟩;clear HM HF;go_wp2_with fail;go_loop [12] (fun i=>∃ k:Nat,k≤L∧i=.int .i64 (k:Int)∧(∀ j,j<k→(ats t (2*j)).kind≠0)) (fun i=>(L - (intOf i).toNat))
   case atStart=>exact ⟨0,Nat.zero_le _,rfl,fun j h=>by omega⟩
   case round=>
    obtain ⟨k,hk,rfl,hpre⟩:=hrel;have HL0:=Lib.hid (HL.out _ (Kp.refl w));have hgo:(k<L∧(ats t (2*k)).kind≠0)∨gapN t=k:=by
     by_cases h1:k<L
     ·by_cases h2:(ats t (2*k)).kind=0
      ·exact .inr (HGAP.out k hk (fun _=>h2) hpre)
      ·exact .inl ⟨h1,h2⟩
     ·exact .inr (HGAP.out k hk (fun h=>absurd h h1) hpre)
    rcases hgo with ⟨hlt,hkn⟩ | hgk
    ·have hk2:=H2.out k hlt
     obtain ⟨b,off,rfl,hb,hc⟩:=HU.out.at (2*k) hk2;obtain ⟨p,q,h,hn⟩:=hc (2*k) hk2;have c1:=hn.kind;have HPRE:Hid (∀ j,j<k+1→(ats t (2*j)).kind≠0):=fun j hj=>by
      rcases Nat.lt_or_eq_of_le (Nat.lt_succ_iff.1 hj) with h3 | h3
      ·exact hpre j h3
      ·rw[h3];exact hkn
     have i1:IntKind.i64.wrap ((k:Int)+1)=(k:Int)+1:=IntWalk.i64_in _ (by omega);have i2:IntKind.i64.wrap (2*(k:Int))=((2*k:Nat):Int):=by rw[IntWalk.i64_in _ (by omega)];omega
     have i3:((2*k:Nat):Int)<(N:Int):=by omega
     clear hc hn hpre hk2 hb HERR HOK HGAP HR hV H2;generalize (ats t (2*k)).kind=X at *;generalize 2*k=K2 at *;have hxb:(X==0)=false:=beq_eq_false_iff_ne.2 hkn;go_wp2_with fail;refine HL0.out.mono ?_;rintro _ _ ⟨rfl,rfl⟩;go_wp2_with fail;go_round
     case rel=>exact ⟨k+1,by omega,by go_num,HPRE.out⟩
     case measure=>simp[intOf];omega
    ·by_cases hkL:k<L
     ·have hgL:¬(k:Int)=(L:Int):=by omega
      have hgLb:((k:Int)==(L:Int))=false:=beq_eq_false_iff_ne.2 hgL;have hk0:=anb (t:=t) (by rw[hgk,hLh.out];exact hkL);rw[hgk] at hk0;have hk2:=H2.out k hkL;have hgk9:=Lib.hid hgk;obtain ⟨b,off,rfl,hb,hc⟩:=HU.out.at (2*k) hk2;obtain ⟨p,q,h,hn⟩:=hc (2*k) hk2;have c1:=hn.kind;rw[hk0] at c1;clear hc hn hpre hb H2 hk0;by_cases hg:k=1024
      ·have:=ana t
       omega
      ·have HE:=Lib.hid (HOK.out (by rw[hgk];exact hg))
       obtain ⟨x1,x2,x3,x4,x5⟩:=HR.out.wide;have hK':=HR.out.gap1024 (by rw[hgk];exact hg);have hunl:=HR.out.un_len;rw[hgk] at x3;have HPT:=Lib.hid (fun W v (h:NL W v ((aai t).set (2*k) (aag name pub)))=>afG v _ (wK t K) k W h hK' (by rw[List.length_set];exact x1) x3);obtain ⟨y1,y2,y3⟩:=agL (t:=(aai t).set (2*k) (aag name pub)) (i:=k) hK' (by rw[List.length_set];exact x1) x3;have hpl:aau ((aai t).set (2*k) (aag name pub)) k=aau (aai t) k:=ajK (List.length_set ..) k;have hadd:addT t name pub=(aau ((aai t).set (2*k) (aag name pub)) k).foldl (fun o x=>abV o k x) ((aai t).set (2*k) (aag name pub)):=by
        rw[hpl];unfold addT;rw[hgk]
       have hwl:(aai t).length≤100000∧2*k<(aai t).length:=by
        have:=acc hK';have:=aaj (wK t K);have:=aaC (wK t K);omega
       have hnd:∀ m,m<wK t K→ats (((aau ((aai t).set (2*k) (aag name pub)) k).take m).foldl (fun o x=>abV o k x) ((aai t).set (2*k) (aag name pub))) ((aau ((aai t).set (2*k) (aag name pub)) k).getD m 0)=ats t ((aau ((aai t).set (2*k) (aag name pub)) k).getD m 0):=fun m hm=>by
        have hnn:(aau ((aai t).set (2*k) (aag name pub)) k).Nodup:=by rw[y1];exact afb _ _
        have hml:m<(aau ((aai t).set (2*k) (aag name pub)) k).length:=by rw[y3];exact hm
        have hge:(aau ((aai t).set (2*k) (aag name pub)) k).getD m 0=(aau ((aai t).set (2*k) (aag name pub)) k)[m]:=by rw[List.getD_eq_getElem?_getD,List.getElem?_eq_getElem hml];rfl
        rw[ale _ _ _ _ (hnn.sublist (List.take_sublist _ _)) (fun y hy=>by
         obtain ⟨j,hj,rfl⟩:=List.getElem_of_mem (List.mem_of_mem_take hy);have:=y2 j hj;rwa [List.getD_eq_getElem?_getD,List.getElem?_eq_getElem hj] at this),if_neg,abk _ _ _ _ hwl.2,if_neg,x4]
        ·rw[hge]
         have:=aba (K:=wK t K) (i:=k) (x:=(aau ((aai t).set (2*k) (aag name pub)) k)[m]) (by rw[← y1];exact List.getElem_mem hml);omega
        ·rintro ⟨hmem,_⟩
         rw[hge] at hmem;obtain ⟨j,hj,e⟩:=List.getElem_of_mem hmem;rw[List.length_take] at hj;rw[List.getElem_take] at e;exact (List.pairwise_iff_getElem.1 hnn) j m (by omega) hml (by omega) e
       have hwide:((gapN t=lvs t→aai t=t++List.replicate (t.length+1) aan)∧(gapN t≠lvs t→aai t=t)):=by
        unfold aai;exact ⟨fun h=>if_pos h,fun h=>if_neg h⟩
       rw[hgk,hLh.out,hNh.out] at hwide;have HT:Hid (∀ m,m<wK t K→((aau ((aai t).set (2*k) (aag name pub)) k).take (m+1)).foldl (fun o x=>abV o k x) ((aai t).set (2*k) (aag name pub))=abV (((aau ((aai t).set (2*k) (aag name pub)) k).take m).foldl (fun o x=>abV o k x) ((aai t).set (2*k) (aag name pub))) k ((aau ((aai t).set (2*k) (aag name pub)) k).getD m 0)):=fun m hm=>afr _ _ _ m 0 (by rw[y3];exact hm)
       have HTE:Hid (((aau ((aai t).set (2*k) (aag name pub)) k).take (wK t K)).foldl (fun o x=>abV o k x) ((aai t).set (2*k) (aag name pub))=addT t name pub):=by
        unfold Hid;rw[hadd,List.take_of_length_le (by rw[y3];exact Nat.le_refl _)]
       have HT0:Hid (((aau ((aai t).set (2*k) (aag name pub)) k).take 0).foldl (fun o x=>abV o k x) ((aai t).set (2*k) (aag name pub))=(aai t).set (2*k) (aag name pub)):=rfl;have HTL:Hid (∀ m,(((aau ((aai t).set (2*k) (aag name pub)) k).take m).foldl (fun o x=>abV o k x) ((aai t).set (2*k) (aag name pub))).length=(aai t).length):=fun m=>by rw[aij,List.length_set]
       have HGD:=Lib.hid (fun m h=>afH (aau ((aai t).set (2*k) (aag name pub)) k) m h);have HML:Hid (((aau ((aai t).set (2*k) (aag name pub)) k).map fun (n:Nat)=>(n:Int)).length=wK t K):=by unfold Hid;rw[List.length_map,y3]
       have HQ2:Hid (∀ m,m<wK t K→(aau ((aai t).set (2*k) (aag name pub)) k).getD m 0<(aai t).length):=fun m hm=>by
        have:=y2 m (by rw[y3];exact hm);rwa [List.length_set] at this
       obtain ⟨F,hF⟩:∃ F:Nat→List Nod,F=fun m=>((aau ((aai t).set (2*k) (aag name pub)) k).take m).foldl (fun o x=>abV o k x) ((aai t).set (2*k) (aag name pub)):=⟨_,rfl⟩
       have hFm:∀ m,((aau ((aai t).set (2*k) (aag name pub)) k).take m).foldl (fun o x=>abV o k x) ((aai t).set (2*k) (aag name pub))=F m:=fun m=>by rw[hF]
       simp only[hFm] at HT HT0 HTE HTL hnd;have HUN:Hid (∀ m,m<wK t K→(ats (F m) ((aau ((aai t).set (2*k) (aag name pub)) k).getD m 0)).un.length≤100000):=fun m hm=>by
        rw[hnd m hm];have:=hunl ((aau ((aai t).set (2*k) (aag name pub)) k).getD m 0);omega
       rw[y3] at HGD;clear hF hFm hadd hpl y1 y2 y3 hnd hunl x2 x4 x5;generalize (aau ((aai t).set (2*k) (aag name pub)) k).map (fun (n:Nat)=>(n:Int))=PI at *;generalize aau ((aai t).set (2*k) (aag name pub)) k=PT at *;obtain ⟨T0,hT0⟩:∃ T0,(aai t).set (2*k) (aag name pub)=T0:=⟨_,rfl⟩;have HT0E:=Lib.hid hT0;rw[hT0] at HPT HT0;clear hT0;generalize addT t name pub=OUT at *;obtain ⟨x1',hwl1,hwl2⟩:=And.intro x1 hwl;clear x1 hwl x1';obtain ⟨WT,hWT⟩:∃ WT,aai t=WT:=⟨_,rfl⟩;rw[hWT] at hwide hwl1 hwl2 HTL HQ2 HT0E;obtain ⟨K9,hK9⟩:∃ K9,wK t K=K9:=⟨_,rfl⟩;rw[hK9] at hK' x3 HT HTE HGD HML HQ2 HUN;clear hWT hK9 x3;have i2:IntKind.i64.wrap (2*(k:Int))=((2*k:Nat):Int):=by rw[IntWalk.i64_in _ (by omega)];omega
       have hkI:¬(k:Int)=1024:=by omega
       have hkb:((k:Int)==1024)=false:=beq_eq_false_iff_ne.2 hkI;have HW9:=Lib.hid (hwide.2 (by omega));have ik3:((2*k:Nat):Int)<(N:Int):=by omega
       clear hwide HERR HOK HR HGAP hgk;go_wp2_with fail;refine HL0.out.mono ?_;rintro _ _ ⟨rfl,rfl⟩;go_wp2_with (at_builtin;refine abG (o:=⟨some 51,_,_,_,_,_⟩) S rfl _ _ rfl w.heap.size _ [] rfl (NO.empty 81 w) _ t rfl (HU.out.apart ((Kp.refl _).alloc _) (fun g hg=>by cases hg;exact Nat.le_refl _)) (by have:=hNh.out;simp;omega) (by simp) ?_;intro v1 w1 o1 g1 _;have k1:Kp w w1:=Kp.grown ((Kp.refl _).alloc _) g1 (fun k hk=>by cases hk;exact Nat.le_refl _);rw[List.nil_append] at o1)
       have o:=o1;have kk:=k1;rw[← HW9.out] at o;have k1h:=Lib.hid k1;have O1:=Lib.hid (And.intro o kk);clear o1 g1 k1 o kk;go_loopw[13] (fun v wr=>NO 81 wr w.heap.size v WT∧Kp w wr) (fun _ _=>0)
       case atStart=>exact O1.out
       case round=>
        obtain ⟨o,kk⟩:=hrel;have HL1:=Lib.hid (HL.out wr kk);clear O1 k1h HL HL0;obtain ⟨av,nv,cv,rfl⟩:=o.nl.sl;have OK:=Lib.hid (And.intro o kk);clear o kk;go_wp2_with fail;refine HL1.out.mono ?_;rintro _ _ ⟨rfl,rfl⟩;obtain ⟨o,kk⟩:=OK.out;clear OK HL1;obtain ⟨gb,cb,ef,b1,b2,b3,b4,_⟩:=o.form (by omega);simp only[Value.slice.injEq] at ef;obtain ⟨rfl,hnv,rfl⟩:=ef;rw[hnv] at o ⊢;clear hnv;obtain ⟨WN,hWN⟩:∃ WN,WT.length=WN:=⟨_,rfl⟩;rw[hWN] at o b3 hwl1 hwl2 HTL HQ2 ⊢;have i3:((2*k:Nat):Int)<(WN:Int):=by omega
        have HVV:=Lib.hid (hV.out.kp kk);have HAP:=Lib.hid (hV.out.apart (v:=.slice (some ⟨gb,0,none⟩) WN cv) (fun g hg=>by cases hg;exact b1));have kkh:=Lib.hid kk;obtain ⟨K2,hK2⟩:∃ K2,2*k=K2:=⟨_,rfl⟩;rw[hK2] at i2 i3 hwl2 HT0E;clear hK2;go_wp2_with (refine abY acF rfl rfl (.tmp 75) (.tmp 74) rfl w.heap.size gb cv WN WT o K2 (by omega) (aag name pub) (.slice ap pub.length cp) (.slice none 0 0) (.slice none 0 0) rfl rfl ⟨HVV.out,RI.nil _,aaP _⟩ HAP.out (aap.nil _ _ _) (aap.nil _ _ _) ?_;intro w5 o5 g5)
        have k5:Kp w w5:=Kp.grown (v:=.slice (some ⟨gb,0,none⟩) WN cv) kk g5 (fun k hk=>by cases hk;exact b1);have b25:gb<w5.heap.size:=Nat.lt_of_lt_of_le b2 g5.size;rw[HT0E.out] at o5;have K5:=Lib.hid k5;clear o g5 kk kkh;go_wp2_with fail;refine (HPT.out w5 _ o5.nl).mono ?_;rintro _ w2 ⟨⟨pv,rfl,o2⟩,k2⟩;have HAPV:=Lib.hid (o2.apart (v:=.slice (some ⟨gb,0,none⟩) WN cv) (fun g hg=>by cases hg;exact b25));have r2:=o2.ri;obtain ⟨ap2,cp2,e2,p2,s2⟩:=r2.shape;subst e2;rw[HML.out] at r2 p2 HAPV ⊢;have HR2:=Lib.hid r2;have HO:=Lib.hid (o5.kp k2);have HK:=Lib.hid (k5.trans k2);have b2w:=Nat.lt_of_lt_of_le b25 k2.size;clear HPT o5 o2 r2 k5 k2 K5 b2 b25;go_wp2_with fail;go_loopw[15] (fun x wr=>∃ m:Nat,m≤K9∧x=.int .i64 (m:Int)∧NO 81 wr w.heap.size (.slice (some ⟨gb,0,none⟩) WN cv) (F m)∧RI wr (.slice ap2 K9 cp2) PI∧Kp w wr∧gb<wr.heap.size) (fun x _=>(K9 - (intOf x).toNat))
        case atStart=>exact ⟨0,Nat.zero_le _,rfl,by rw[HT0.out];exact HO.out,HR2.out,HK.out,b2w⟩
        case round=>
         obtain ⟨m,hm,rfl,ho,hri,hkp,hgb⟩:=hrel;by_cases hlt:m<K9
         ·obtain ⟨g1,o1,rfl,_,hc1⟩:=hri.at m hlt
          have h1:=hc1 m hlt;rw[HGD.out m hlt] at h1;have hin:=HQ2.out m hlt;have HT1:=HT.out m hlt;have HL1:=HTL.out m;have HUN1:=HUN.out m hlt;have i1:IntKind.i64.wrap ((m:Int)+1)=(m:Int)+1:=IntWalk.i64_in _ (by omega);have i4:((PT.getD m 0:Nat):Int)<(WN:Int):=by omega
          have i5:(m:Int)<(K9:Int):=by omega
          obtain ⟨gb',cb',ee,_,_,_,_,hat⟩:=ho.form (by omega);simp only[Value.slice.injEq,Option.some.injEq,Addr.mk.injEq] at ee;obtain ⟨⟨rfl,_,_⟩,hw9,rfl⟩:=ee;clear hw9;obtain ⟨p,q,hh,hn,a1,a2,a3⟩:=hat (PT.getD m 0) (by omega);have c0:=hn.kind;have c1:=hn.name;have c2:=hn.pubC;have c3:=hn.unC;have c4:=hn.hashC;have HN:=Lib.hid hn.2;have HAA:=Lib.hid (And.intro a1 a3);have HRR:=Lib.hid hri;have HOO:=Lib.hid ho;have HNAT:=Lib.hid hn;obtain ⟨xp,np,xcp,rfl⟩:=aac hn.2.pub;obtain ⟨xq,nq,xcq,rfl⟩:=hn.2.un.sl;obtain ⟨xh,nh,xch,rfl⟩:=aac hn.2.hash;clear HT HTL HQ2 HGD hc1 HT0 HTE HO HR2 HK HUN hat hn a1 a2 a3 hri ho;generalize PT.getD m 0=X at *;by_cases hk2:(ats (F m) X).kind=2
          ·have e9:F (m+1)=(F m).set X (agn (ats (F m) X) k):=by rw[HT1];exact if_pos hk2
           have E9:=Lib.hid e9;have HPUT:=Lib.hid (fun W (hW:Kp wr W)=>ah1 (.slice xq nq xcq) _ (k:Int) W (HN.out.un.kp hW) HUN1);rw[hk2] at c0;have HKD:=Lib.hid hk2;obtain ⟨NM,hNM⟩:∃ NM,(ats (F m) X).name=NM:=⟨_,rfl⟩;have HNM:=Lib.hid hNM;rw[hNM] at c1;clear HT1 e9 hk2 HUN1 hNM;go_wp2_with fail;refine (HPUT.out _ ((Kp.refl _).alloc _)).mono ?_;rintro _ w3 ⟨⟨r,rfl,o3⟩,k3⟩;have bx:=(Bx.new wr 81 #[.int .i64 2,.int .i64 NM,.slice xp np xcp,.slice xq nq xcq,.slice xh nh xch]).kp k3;have HKW:Hid (Kp wr w3):=((Kp.refl wr).alloc _).trans k3;have d3:=bx.cell 3;have f3:=bx.frozen 3;have bx2:=bx.set 3 r;have HK4:Hid (Kp wr (w3.setCell ⟨wr.heap.size,3,none⟩ r)):=HKW.out.setNew (Nat.le_refl _) r;have HAR:=Lib.hid (o3.apart (v:=.slice (some ⟨gb,0,none⟩) WN cv) (fun g hg=>by cases hg;simp;omega));have r3:RI (w3.setCell ⟨wr.heap.size,3,none⟩ r) r (putN (ats (F m) X).un (k:Int)):=o3.ri.grown9 (v:=.slice (some ⟨wr.heap.size,0,none⟩) 0 0) ⟨rfl,rfl,rfl,by simp,fun z hz hne=>heap_setCell_other w3 ⟨wr.heap.size,3,none⟩ z r (fun e=>hne (by rw[e];rfl))⟩ (o3.apart (fun g hg=>by cases hg;simp));have HR3:=Lib.hid r3;obtain ⟨xr,nr,xcr,rfl⟩:=o3.ri.sl;have HO4:=Lib.hid (HOO.out.kp HK4.out);clear HPUT o3 k3 r3 bx;go_wp2_with fail;obtain ⟨d0,d1,d2,d4,d5⟩:_∧_∧_∧_∧_:=⟨bx2.cell 0,bx2.cell 1,bx2.cell 2,bx2.cell 3,bx2.cell 4⟩;have hl2:=HK4.out.cell h1;have hth:=HO4.out.there X (by omega);have j0:=(hth 0 (by omega)).2;have j1:=(hth 1 (by omega)).2;have j2:=(hth 2 (by omega)).2;have j3:=(hth 3 (by omega)).2;have j4:=(hth 4 (by omega)).2;have q0:=HK4.out.cell c0;have q1:=HK4.out.cell c1;have q2:=HK4.out.cell c2;have q3:=HK4.out.cell c3;have q4:=HK4.out.cell c4;rw[Nat.add_zero] at j0;have hst:=HO4.out.stored X (by omega) (agn (ats (F m) X) k) (.slice xp np xcp) (.slice xr nr xcr) (.slice xh nh xch) ⟨HN.out.pub.kp HK4.out,HR3.out,HN.out.hash.kp HK4.out⟩ HAA.out.1 HAR.out HAA.out.2;rw[← E9.out] at hst;have hnc:nodC (agn (ats (F m) X) k) (.slice xp np xcp) (.slice xr nr xcr) (.slice xh nh xch)=[.int .i64 2,.int .i64 NM,.slice xp np xcp,.slice xr nr xcr,.slice xh nh xch]:=by
            rw[← HNM.out,← HKD.out];rfl
           rw[hnc] at hst;have HST:=Lib.hid hst;have HKF:=Lib.hid (And.intro (hkp.trans HK4.out) hkp.size);have HSZ:Hid (gb<(w3.setCell ⟨wr.heap.size,3,none⟩ (.slice xr nr xcr)).heap.size):=Nat.lt_of_lt_of_le hgb HK4.out.size;have HRI:=Lib.hid (HRR.out.kp HK4.out);clear hth hst hnc HO4 HK4 HKW HR3 HAR HN HAA HRR HOO HNAT h1 c0 c1 c2 c3 c4 hkp hgb E9 HKD HNM bx2 d3 f3;obtain ⟨W4,hW4⟩:∃ W4,w3.setCell ⟨wr.heap.size,3,none⟩ (.slice xr nr xcr)=W4:=⟨_,rfl⟩;simp only[hW4] at *;go_region
           clear d0 d1 d2 d4 d5 hl2 j0 j1 j2 j3 j4 q0 q1 q2 q3 q4;go_wp2_with fail;have hfin:=HST.out;go_roundw
           case rel=>exact ⟨m+1,by omega,by go_num,hfin.1.kp (Kp.refl _).drew,(HRI.out.grown9 (v:=.slice (some ⟨gb,0,none⟩) WN cv) hfin.2 HAPV.out).kp (Kp.refl _).drew,(Kp.grown (v:=.slice (some ⟨gb,0,none⟩) WN cv) HKF.out.1 hfin.2 (fun k hk=>by cases hk;exact b1)).drew,Nat.lt_of_lt_of_le HSZ.out hfin.2.size⟩
           case measure=>simp[intOf];omega
          ·have e9:F (m+1)=F m:=by rw[HT1];exact if_neg hk2
           have hkb2:((ats (F m) X).kind==2)=false:=beq_eq_false_iff_ne.2 hk2;have HE9:=Lib.hid e9;have HKK:=Lib.hid (And.intro hkp hgb);generalize (ats (F m) X).kind=KD at *;generalize (ats (F m) X).name=NM at *;clear HT1 e9 hkp;go_wp2_with fail;go_roundw
           case rel=>exact ⟨m+1,by omega,by go_num,by rw[HE9.out];exact HOO.out.kp ((Kp.refl _).alloc _),HRR.out.kp ((Kp.refl _).alloc _),HKK.out.1.alloc _,by simp;have:=HKK.out.2;omega⟩
           case measure=>simp[intOf];omega
         ·obtain rfl:m=K9:=by omega
          rw[HTE.out] at ho;have O5:=Lib.hid (And.intro ho hkp);clear HT HTL HQ2 HGD HTE hri ho hkp;go_wp2_with fail;go_ret3
          exact ⟨⟨_,by rw[HE.out.1,HE.out.2.2,hgk9.out] <;> rfl,by rw[HE.out.2.1];exact O5.out.1.nl,fun _=>by rw[HE.out.2.1];exact O5.out.1⟩,O5.out.2⟩
     ·obtain rfl:k=L:=by omega
      have hgk9:=Lib.hid hgk;have hke:((k:Int)==(k:Int))=true:=beq_self_eq_true _;clear hpre H2;by_cases hg:k=1024
      ·have HE:=Lib.hid (HERR.out (by rw[hgk];exact hg))
       clear HERR HOK HR HGAP hgk HL;subst hg;go_wp2_with fail;refine HL0.out.mono ?_;rintro _ _ ⟨rfl,rfl⟩;go_wp2_with fail;go_ret3
       exact ⟨⟨_,by rw[HE.out.1,HE.out.2.2] <;> rfl,by rw[HE.out.2.1];exact HU.out,fun h=>by rw[HE.out.1] at h;exact absurd h (by decide)⟩,Kp.refl _⟩
      ·have HE:=Lib.hid (HOK.out (by rw[hgk];exact hg))
       obtain ⟨x1,x2,x3,x4,x5⟩:=HR.out.wide;have hK':=HR.out.gap1024 (by rw[hgk];exact hg);have hunl:=HR.out.un_len;rw[hgk] at x3;have HPT:=Lib.hid (fun W v (h:NL W v ((aai t).set (2*k) (aag name pub)))=>afG v _ (wK t K) k W h hK' (by rw[List.length_set];exact x1) x3);obtain ⟨y1,y2,y3⟩:=agL (t:=(aai t).set (2*k) (aag name pub)) (i:=k) hK' (by rw[List.length_set];exact x1) x3;have hpl:aau ((aai t).set (2*k) (aag name pub)) k=aau (aai t) k:=ajK (List.length_set ..) k;have hadd:addT t name pub=(aau ((aai t).set (2*k) (aag name pub)) k).foldl (fun o x=>abV o k x) ((aai t).set (2*k) (aag name pub)):=by
        rw[hpl];unfold addT;rw[hgk]
       have hwl:(aai t).length≤100000∧2*k<(aai t).length:=by
        have:=acc hK';have:=aaj (wK t K);have:=aaC (wK t K);omega
       have hnd:∀ m,m<wK t K→ats (((aau ((aai t).set (2*k) (aag name pub)) k).take m).foldl (fun o x=>abV o k x) ((aai t).set (2*k) (aag name pub))) ((aau ((aai t).set (2*k) (aag name pub)) k).getD m 0)=ats t ((aau ((aai t).set (2*k) (aag name pub)) k).getD m 0):=fun m hm=>by
        have hnn:(aau ((aai t).set (2*k) (aag name pub)) k).Nodup:=by rw[y1];exact afb _ _
        have hml:m<(aau ((aai t).set (2*k) (aag name pub)) k).length:=by rw[y3];exact hm
        have hge:(aau ((aai t).set (2*k) (aag name pub)) k).getD m 0=(aau ((aai t).set (2*k) (aag name pub)) k)[m]:=by rw[List.getD_eq_getElem?_getD,List.getElem?_eq_getElem hml];rfl
        rw[ale _ _ _ _ (hnn.sublist (List.take_sublist _ _)) (fun y hy=>by
         obtain ⟨j,hj,rfl⟩:=List.getElem_of_mem (List.mem_of_mem_take hy);have:=y2 j hj;rwa [List.getD_eq_getElem?_getD,List.getElem?_eq_getElem hj] at this),if_neg,abk _ _ _ _ hwl.2,if_neg,x4]
        ·rw[hge]
         have:=aba (K:=wK t K) (i:=k) (x:=(aau ((aai t).set (2*k) (aag name pub)) k)[m]) (by rw[← y1];exact List.getElem_mem hml);omega
        ·rintro ⟨hmem,_⟩
         rw[hge] at hmem;obtain ⟨j,hj,e⟩:=List.getElem_of_mem hmem;rw[List.length_take] at hj;rw[List.getElem_take] at e;exact (List.pairwise_iff_getElem.1 hnn) j m (by omega) hml (by omega) e
       have hwide:((gapN t=lvs t→aai t=t++List.replicate (t.length+1) aan)∧(gapN t≠lvs t→aai t=t)):=by
        unfold aai;exact ⟨fun h=>if_pos h,fun h=>if_neg h⟩
       rw[hgk,hLh.out,hNh.out] at hwide;have HT:Hid (∀ m,m<wK t K→((aau ((aai t).set (2*k) (aag name pub)) k).take (m+1)).foldl (fun o x=>abV o k x) ((aai t).set (2*k) (aag name pub))=abV (((aau ((aai t).set (2*k) (aag name pub)) k).take m).foldl (fun o x=>abV o k x) ((aai t).set (2*k) (aag name pub))) k ((aau ((aai t).set (2*k) (aag name pub)) k).getD m 0)):=fun m hm=>afr _ _ _ m 0 (by rw[y3];exact hm)
       have HTE:Hid (((aau ((aai t).set (2*k) (aag name pub)) k).take (wK t K)).foldl (fun o x=>abV o k x) ((aai t).set (2*k) (aag name pub))=addT t name pub):=by
        unfold Hid;rw[hadd,List.take_of_length_le (by rw[y3];exact Nat.le_refl _)]
       have HT0:Hid (((aau ((aai t).set (2*k) (aag name pub)) k).take 0).foldl (fun o x=>abV o k x) ((aai t).set (2*k) (aag name pub))=(aai t).set (2*k) (aag name pub)):=rfl;have HTL:Hid (∀ m,(((aau ((aai t).set (2*k) (aag name pub)) k).take m).foldl (fun o x=>abV o k x) ((aai t).set (2*k) (aag name pub))).length=(aai t).length):=fun m=>by rw[aij,List.length_set]
       have HGD:=Lib.hid (fun m h=>afH (aau ((aai t).set (2*k) (aag name pub)) k) m h);have HML:Hid (((aau ((aai t).set (2*k) (aag name pub)) k).map fun (n:Nat)=>(n:Int)).length=wK t K):=by unfold Hid;rw[List.length_map,y3]
       have HQ2:Hid (∀ m,m<wK t K→(aau ((aai t).set (2*k) (aag name pub)) k).getD m 0<(aai t).length):=fun m hm=>by
        have:=y2 m (by rw[y3];exact hm);rwa [List.length_set] at this
       obtain ⟨F,hF⟩:∃ F:Nat→List Nod,F=fun m=>((aau ((aai t).set (2*k) (aag name pub)) k).take m).foldl (fun o x=>abV o k x) ((aai t).set (2*k) (aag name pub)):=⟨_,rfl⟩
       have hFm:∀ m,((aau ((aai t).set (2*k) (aag name pub)) k).take m).foldl (fun o x=>abV o k x) ((aai t).set (2*k) (aag name pub))=F m:=fun m=>by rw[hF]
       simp only[hFm] at HT HT0 HTE HTL hnd;have HUN:Hid (∀ m,m<wK t K→(ats (F m) ((aau ((aai t).set (2*k) (aag name pub)) k).getD m 0)).un.length≤100000):=fun m hm=>by
        rw[hnd m hm];have:=hunl ((aau ((aai t).set (2*k) (aag name pub)) k).getD m 0);omega
       rw[y3] at HGD;clear hF hFm hadd hpl y1 y2 y3 hnd hunl x2 x4 x5;generalize (aau ((aai t).set (2*k) (aag name pub)) k).map (fun (n:Nat)=>(n:Int))=PI at *;generalize aau ((aai t).set (2*k) (aag name pub)) k=PT at *;obtain ⟨T0,hT0⟩:∃ T0,(aai t).set (2*k) (aag name pub)=T0:=⟨_,rfl⟩;have HT0E:=Lib.hid hT0;rw[hT0] at HPT HT0;clear hT0;generalize addT t name pub=OUT at *;obtain ⟨x1',hwl1,hwl2⟩:=And.intro x1 hwl;clear x1 hwl x1';obtain ⟨WT,hWT⟩:∃ WT,aai t=WT:=⟨_,rfl⟩;rw[hWT] at hwide hwl1 hwl2 HTL HQ2 HT0E;obtain ⟨K9,hK9⟩:∃ K9,wK t K=K9:=⟨_,rfl⟩;rw[hK9] at hK' x3 HT HTE HGD HML HQ2 HUN;clear hWT hK9 x3;have i2:IntKind.i64.wrap (2*(k:Int))=((2*k:Nat):Int):=by rw[IntWalk.i64_in _ (by omega)];omega
       have hkI:¬(k:Int)=1024:=by omega
       have hkb:((k:Int)==1024)=false:=beq_eq_false_iff_ne.2 hkI;have HW9:=Lib.hid (hwide.1 rfl);have ik3:IntKind.i64.wrap (2*(N:Int))=((2*N:Nat):Int):=by rw[IntWalk.i64_in _ (by omega)];omega
       have ik4:IntKind.i64.wrap (((2*N:Nat):Int)+1)=((2*N+1:Nat):Int):=by rw[IntWalk.i64_in _ (by omega)];omega
       clear hwide HERR HOK HR HGAP hgk;go_wp2_with fail;refine HL0.out.mono ?_;rintro _ _ ⟨rfl,rfl⟩;go_wp2_with (at_builtin;refine abG (o:=⟨some 51,_,_,_,_,_⟩) S rfl _ _ rfl w.heap.size _ [] rfl (NO.empty 81 w) _ t rfl (HU.out.apart ((Kp.refl _).alloc _) (fun g hg=>by cases hg;exact Nat.le_refl _)) (by have:=hNh.out;simp;omega) (by simp) ?_;intro v1 w1 o1 g1 _;have k1:Kp w w1:=Kp.grown ((Kp.refl _).alloc _) g1 (fun k hk=>by cases hk;exact Nat.le_refl _);rw[List.nil_append] at o1)
       have k1h:=Lib.hid k1;have O1:=Lib.hid (And.intro o1 k1);clear o1 g1 k1;go_loopw[13] (fun v wr=>∃ m,m≤N+1∧NO 81 wr w.heap.size v (t++List.replicate m aan)∧Kp w wr) (fun v _=>2*N+1 - (match v with | .slice _ n _=>n | _=>0))
       case atStart=>exact ⟨0,Nat.zero_le _,by simpa using O1.out.1,O1.out.2⟩
       case round=>
        obtain ⟨m,hm,o,kk⟩:=hrel;have HL1:=Lib.hid (HL.out wr kk);have hlen9:(t++List.replicate m aan).length=N+m:=by rw[List.length_append,List.length_replicate,hNh.out]
        obtain ⟨av,cv,e9,_,_⟩:=o.nl.shape;subst e9;rw[hlen9] at o ⊢;have OK:=Lib.hid (And.intro o kk);by_cases hlt:m<N+1
        ·have hcI:((N+m:Nat):Int)<((2*N+1:Nat):Int):=by omega
         have hsz:=kk.size;have HNB:Hid (NAp (wr.alloc (.cells #[.int .i64 0,.int .i64 0,.slice none 0 0,.slice none 0 0,.slice none 0 0] 81)) (.slice av (N+m) cv) (.slice (some ⟨wr.heap.size,0,none⟩) 1 1) [aan]):=(NL.lit1 wr 81 aan (.slice none 0 0) (.slice none 0 0) (.slice none 0 0) ⟨aaP _,RI.nil _,aaP _⟩).apart_blank an5;have HRP:=Lib.hid (apl t m);generalize t++List.replicate m aan=TM at *;clear O1 k1h HL HL0 HT HTE HT0 HTL HGD HML HQ2 HUN HT0E HW9;go_wp2_with (first
          | (go_at_call 31;refine HL1.out.mono ?_;rintro _ _ ⟨rfl,rfl⟩)
          | (at_builtin;refine abG (o:=⟨some 68,_,_,_,_,_⟩) S rfl _ _ rfl w.heap.size _ TM rfl (OK.out.1.kp ((Kp.refl wr).alloc _)) _ [aan] rfl HNB.out (by simp;omega) (by simp;omega) ?_;intro v5 w5 o5 g5 _;have k5:Kp w w5:=Kp.grown (OK.out.2.alloc _) g5 OK.out.1.own_ge))
         rw[HRP.out] at o5;have hl10:(t++List.replicate (m+1) aan).length=N+(m+1):=by rw[List.length_append,List.length_replicate,hNh.out]
         obtain ⟨av5,cv5,e9,_,_⟩:=o5.nl.shape;rw[hl10] at e9;subst e9;have O9:=Lib.hid (And.intro o5 k5);clear o5 k5 g5 o kk;go_roundw
         case rel=>exact ⟨m+1,by omega,O9.out.1,O9.out.2⟩
         case measure=>show 2*N+1 - (N+(m+1))<2*N+1 - (N+m);omega
        ·obtain rfl:m=N+1:=by omega
         have hcI:¬((N+(N+1):Nat):Int)<((2*N+1:Nat):Int):=by omega
         clear o kk O1 k1h HL HL0;rw[← HW9.out] at OK;go_wp2_with fail;refine HL1.out.mono ?_;rintro _ _ ⟨rfl,rfl⟩;obtain ⟨o,kk⟩:=OK.out;clear OK HL1 hlen9;obtain ⟨gb,cb,ef,b1,b2,b3,b4,_⟩:=o.form (by omega);simp only[Value.slice.injEq] at ef;obtain ⟨rfl,hnv,rfl⟩:=ef;rw[hnv] at o ⊢;have hcW:¬((WT.length:Nat):Int)<((2*N+1:Nat):Int):=by omega
         clear hnv;obtain ⟨WN,hWN⟩:∃ WN,WT.length=WN:=⟨_,rfl⟩;rw[hWN] at o b3 hwl1 hwl2 HTL HQ2 hcW ⊢;have i3:((2*k:Nat):Int)<(WN:Int):=by omega
         have HVV:=Lib.hid (hV.out.kp kk);have HAP:=Lib.hid (hV.out.apart (v:=.slice (some ⟨gb,0,none⟩) WN cv) (fun g hg=>by cases hg;exact b1));have kkh:=Lib.hid kk;obtain ⟨K2,hK2⟩:∃ K2,2*k=K2:=⟨_,rfl⟩;rw[hK2] at i2 i3 hwl2 HT0E;clear hK2;go_wp2_with (refine abY acF rfl rfl (.tmp 75) (.tmp 74) rfl w.heap.size gb cv WN WT o K2 (by omega) (aag name pub) (.slice ap pub.length cp) (.slice none 0 0) (.slice none 0 0) rfl rfl ⟨HVV.out,RI.nil _,aaP _⟩ HAP.out (aap.nil _ _ _) (aap.nil _ _ _) ?_;intro w5 o5 g5)
         have k5:Kp w w5:=Kp.grown (v:=.slice (some ⟨gb,0,none⟩) WN cv) kk g5 (fun k hk=>by cases hk;exact b1);have b25:gb<w5.heap.size:=Nat.lt_of_lt_of_le b2 g5.size;rw[HT0E.out] at o5;have K5:=Lib.hid k5;clear o g5 kk kkh;go_wp2_with fail;refine (HPT.out w5 _ o5.nl).mono ?_;rintro _ w2 ⟨⟨pv,rfl,o2⟩,k2⟩;have HAPV:=Lib.hid (o2.apart (v:=.slice (some ⟨gb,0,none⟩) WN cv) (fun g hg=>by cases hg;exact b25));have r2:=o2.ri;obtain ⟨ap2,cp2,e2,p2,s2⟩:=r2.shape;subst e2;rw[HML.out] at r2 p2 HAPV ⊢;have HR2:=Lib.hid r2;have HO:=Lib.hid (o5.kp k2);have HK:=Lib.hid (k5.trans k2);have b2w:=Nat.lt_of_lt_of_le b25 k2.size;clear HPT o5 o2 r2 k5 k2 K5 b2 b25;go_wp2_with fail;go_loopw[15] (fun x wr=>∃ m:Nat,m≤K9∧x=.int .i64 (m:Int)∧NO 81 wr w.heap.size (.slice (some ⟨gb,0,none⟩) WN cv) (F m)∧RI wr (.slice ap2 K9 cp2) PI∧Kp w wr∧gb<wr.heap.size) (fun x _=>(K9 - (intOf x).toNat))
         case atStart=>exact ⟨0,Nat.zero_le _,rfl,by rw[HT0.out];exact HO.out,HR2.out,HK.out,b2w⟩
         case round=>
          obtain ⟨m,hm,rfl,ho,hri,hkp,hgb⟩:=hrel;by_cases hlt:m<K9
          ·obtain ⟨g1,o1,rfl,_,hc1⟩:=hri.at m hlt
           have h1:=hc1 m hlt;rw[HGD.out m hlt] at h1;have hin:=HQ2.out m hlt;have HT1:=HT.out m hlt;have HL1:=HTL.out m;have HUN1:=HUN.out m hlt;have i1:IntKind.i64.wrap ((m:Int)+1)=(m:Int)+1:=IntWalk.i64_in _ (by omega);have i4:((PT.getD m 0:Nat):Int)<(WN:Int):=by omega
           have i5:(m:Int)<(K9:Int):=by omega
           obtain ⟨gb',cb',ee,_,_,_,_,hat⟩:=ho.form (by omega);simp only[Value.slice.injEq,Option.some.injEq,Addr.mk.injEq] at ee;obtain ⟨⟨rfl,_,_⟩,hw9,rfl⟩:=ee;clear hw9;obtain ⟨p,q,hh,hn,a1,a2,a3⟩:=hat (PT.getD m 0) (by omega);have c0:=hn.kind;have c1:=hn.name;have c2:=hn.pubC;have c3:=hn.unC;have c4:=hn.hashC;have HN:=Lib.hid hn.2;have HAA:=Lib.hid (And.intro a1 a3);have HRR:=Lib.hid hri;have HOO:=Lib.hid ho;have HNAT:=Lib.hid hn;obtain ⟨xp,np,xcp,rfl⟩:=aac hn.2.pub;obtain ⟨xq,nq,xcq,rfl⟩:=hn.2.un.sl;obtain ⟨xh,nh,xch,rfl⟩:=aac hn.2.hash;clear HT HTL HQ2 HGD hc1 HT0 HTE HO HR2 HK HUN hat hn a1 a2 a3 hri ho;generalize PT.getD m 0=X at *;by_cases hk2:(ats (F m) X).kind=2
           ·have e9:F (m+1)=(F m).set X (agn (ats (F m) X) k):=by rw[HT1];exact if_pos hk2
            have E9:=Lib.hid e9;have HPUT:=Lib.hid (fun W (hW:Kp wr W)=>ah1 (.slice xq nq xcq) _ (k:Int) W (HN.out.un.kp hW) HUN1);rw[hk2] at c0;have HKD:=Lib.hid hk2;obtain ⟨NM,hNM⟩:∃ NM,(ats (F m) X).name=NM:=⟨_,rfl⟩;have HNM:=Lib.hid hNM;rw[hNM] at c1;clear HT1 e9 hk2 HUN1 hNM;go_wp2_with fail;refine (HPUT.out _ ((Kp.refl _).alloc _)).mono ?_;rintro _ w3 ⟨⟨r,rfl,o3⟩,k3⟩;have bx:=(Bx.new wr 81 #[.int .i64 2,.int .i64 NM,.slice xp np xcp,.slice xq nq xcq,.slice xh nh xch]).kp k3;have HKW:Hid (Kp wr w3):=((Kp.refl wr).alloc _).trans k3;have d3:=bx.cell 3;have f3:=bx.frozen 3;have bx2:=bx.set 3 r;have HK4:Hid (Kp wr (w3.setCell ⟨wr.heap.size,3,none⟩ r)):=HKW.out.setNew (Nat.le_refl _) r;have HAR:=Lib.hid (o3.apart (v:=.slice (some ⟨gb,0,none⟩) WN cv) (fun g hg=>by cases hg;simp;omega));have r3:RI (w3.setCell ⟨wr.heap.size,3,none⟩ r) r (putN (ats (F m) X).un (k:Int)):=o3.ri.grown9 (v:=.slice (some ⟨wr.heap.size,0,none⟩) 0 0) ⟨rfl,rfl,rfl,by simp,fun z hz hne=>heap_setCell_other w3 ⟨wr.heap.size,3,none⟩ z r (fun e=>hne (by rw[e];rfl))⟩ (o3.apart (fun g hg=>by cases hg;simp));have HR3:=Lib.hid r3;obtain ⟨xr,nr,xcr,rfl⟩:=o3.ri.sl;have HO4:=Lib.hid (HOO.out.kp HK4.out);clear HPUT o3 k3 r3 bx;go_wp2_with fail;obtain ⟨d0,d1,d2,d4,d5⟩:_∧_∧_∧_∧_:=⟨bx2.cell 0,bx2.cell 1,bx2.cell 2,bx2.cell 3,bx2.cell 4⟩;have hl2:=HK4.out.cell h1;have hth:=HO4.out.there X (by omega);have j0:=(hth 0 (by omega)).2;have j1:=(hth 1 (by omega)).2;have j2:=(hth 2 (by omega)).2;have j3:=(hth 3 (by omega)).2;have j4:=(hth 4 (by omega)).2;have q0:=HK4.out.cell c0;have q1:=HK4.out.cell c1;have q2:=HK4.out.cell c2;have q3:=HK4.out.cell c3;have q4:=HK4.out.cell c4;rw[Nat.add_zero] at j0;have hst:=HO4.out.stored X (by omega) (agn (ats (F m) X) k) (.slice xp np xcp) (.slice xr nr xcr) (.slice xh nh xch) ⟨HN.out.pub.kp HK4.out,HR3.out,HN.out.hash.kp HK4.out⟩ HAA.out.1 HAR.out HAA.out.2;rw[← E9.out] at hst;have hnc:nodC (agn (ats (F m) X) k) (.slice xp np xcp) (.slice xr nr xcr) (.slice xh nh xch)=[.int .i64 2,.int .i64 NM,.slice xp np xcp,.slice xr nr xcr,.slice xh nh xch]:=by
             rw[← HNM.out,← HKD.out];rfl
            rw[hnc] at hst;have HST:=Lib.hid hst;have HKF:=Lib.hid (And.intro (hkp.trans HK4.out) hkp.size);have HSZ:Hid (gb<(w3.setCell ⟨wr.heap.size,3,none⟩ (.slice xr nr xcr)).heap.size):=Nat.lt_of_lt_of_le hgb HK4.out.size;have HRI:=Lib.hid (HRR.out.kp HK4.out);clear hth hst hnc HO4 HK4 HKW HR3 HAR HN HAA HRR HOO HNAT h1 c0 c1 c2 c3 c4 hkp hgb E9 HKD HNM bx2 d3 f3;obtain ⟨W4,hW4⟩:∃ W4,w3.setCell ⟨wr.heap.size,3,none⟩ (.slice xr nr xcr)=W4:=⟨_,rfl⟩;simp only[hW4] at *;go_region
            clear d0 d1 d2 d4 d5 hl2 j0 j1 j2 j3 j4 q0 q1 q2 q3 q4;go_wp2_with fail;have hfin:=HST.out;go_roundw
            case rel=>exact ⟨m+1,by omega,by go_num,hfin.1.kp (Kp.refl _).drew,(HRI.out.grown9 (v:=.slice (some ⟨gb,0,none⟩) WN cv) hfin.2 HAPV.out).kp (Kp.refl _).drew,(Kp.grown (v:=.slice (some ⟨gb,0,none⟩) WN cv) HKF.out.1 hfin.2 (fun k hk=>by cases hk;exact b1)).drew,Nat.lt_of_lt_of_le HSZ.out hfin.2.size⟩
            case measure=>simp[intOf];omega
           ·have e9:F (m+1)=F m:=by rw[HT1];exact if_neg hk2
            have hkb2:((ats (F m) X).kind==2)=false:=beq_eq_false_iff_ne.2 hk2;have HE9:=Lib.hid e9;have HKK:=Lib.hid (And.intro hkp hgb);generalize (ats (F m) X).kind=KD at *;generalize (ats (F m) X).name=NM at *;clear HT1 e9 hkp;go_wp2_with fail;go_roundw
            case rel=>exact ⟨m+1,by omega,by go_num,by rw[HE9.out];exact HOO.out.kp ((Kp.refl _).alloc _),HRR.out.kp ((Kp.refl _).alloc _),HKK.out.1.alloc _,by simp;have:=HKK.out.2;omega⟩
            case measure=>simp[intOf];omega
          ·obtain rfl:m=K9:=by omega
           rw[HTE.out] at ho;have O5:=Lib.hid (And.intro ho hkp);clear HT HTL HQ2 HGD HTE hri ho hkp;go_wp2_with fail;go_ret3
           exact ⟨⟨_,by rw[HE.out.1,HE.out.2.2,hgk9.out] <;> rfl,by rw[HE.out.2.1];exact O5.out.1.nl,fun _=>by rw[HE.out.2.1];exact O5.out.1⟩,O5.out.2⟩
 ·have e1:addE t name pub=1:=by unfold addE;rw[if_neg hm]
  obtain ⟨e2,e3⟩:=an6 1 e1 (by decide);rw[e1,e2,e3];rw[decide_eq_false hm] at HM;clear hv hr hm e1 e2 e3 HL z2;go_enter Tryz.func38,Tryz.ntmps38;go_wp2_with fail;refine HM.out.mono ?_;rintro _ _ ⟨rfl,rfl⟩;go_wp2_with fail;refine HF.out.mono ?_;rintro _ _ ⟨rfl,rfl⟩;go_wp2_with fail;go_ret3
  exact ⟨⟨_,rfl,HU.out,fun h=>absurd h (by decide)⟩,Kp.refl _⟩
theorem akK (u v:Value)(t:List Nod)(K:Nat)(name:Int)(pub:List UInt8)(w:World)(hu:NL w u t)(hv:Rd w v pub)(hr:aab t K):
  Calls Tryz.prog 38 #[u,.int .i64 name,v] w fun e w'=>(∃ r,e=.returned (.tuple #[r,.int .i64 (addI t name pub),.int .i64 (addE t name pub)])∧NL w' r (addV t name pub))∧Kp w w':=
 (akJ u v t K name pub w hu hv hr).mono fun _ _ ⟨⟨r,h1,h2,_⟩,h3⟩=>⟨⟨r,h1,h2⟩,h3⟩
end Go.Proofs.YthmhklmkgkfcpaaGreatDoor
