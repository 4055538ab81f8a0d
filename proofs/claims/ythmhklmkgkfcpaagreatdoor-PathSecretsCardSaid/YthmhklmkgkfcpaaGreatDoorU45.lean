import Derived.Test.YthmhklmkgkfcpaaGreatDoorU17
import Derived.Test.YthmhklmkgkfcpaaGreatDoorU30
import Derived.Test.YthmhklmkgkfcpaaGreatDoorU35
import Derived.Test.YthmhklmkgkfcpaaGreatDoorU40
import Derived.Deep.RegionHeld3
set_option linter.unusedVariables false
set_option linter.unusedSimpArgs false
set_option maxHeartbeats 8000000
set_option maxRecDepth 100000
namespace Go.Proofs.YthmhklmkgkfcpaaGreatDoor
open Go.RowKit Go.Maps
open Classical in
noncomputable def metS (t:List Nod) (own:List Sd) (l:List Nat):Nat:=(l.filter fun x=>decide (aex t own x)).length
theorem apJ {t:List Nod}{own:List Sd}{l:List Nat}{j:Nat}(h:j<l.length)(hg:aex t own (l.getD j 0)):metS t own (l.take (j+1))=metS t own (l.take j)+1:=by
 unfold metS;rw[List.getD_eq_getElem?_getD,List.getElem?_eq_getElem h] at hg;have hg':aex t own l[j]:=hg;rw[List.take_succ_eq_append_getElem h,List.filter_append,List.length_append,List.filter_cons,if_pos (by simpa using hg')];rfl
theorem aqX {t:List Nod}{own:List Sd}{l:List Nat}{j:Nat}(h:j<l.length)(hg:¬aex t own (l.getD j 0)):metS t own (l.take (j+1))=metS t own (l.take j):=by
 unfold metS;rw[List.getD_eq_getElem?_getD,List.getElem?_eq_getElem h] at hg;have hg':¬aex t own l[j]:=hg;rw[List.take_succ_eq_append_getElem h,List.filter_append,List.length_append,List.filter_cons,if_neg (by simpa using hg')];rfl
theorem aqY (t:List Nod)(own:List Sd)(l:List Nat):metS t own l≤l.length:=List.length_filter_le _ _
theorem apK {t:List Nod}{own:List Sd}(hs:srt own){x:Nat}{s:Sd}(h:s∈own)(hx:s.node=(x:Int)):aex t own x↔(pubE s.seed=0∧pubR s.seed=(ats t x).pub):=by
 constructor
 ·rintro ⟨s',q1,q2,q3,q4⟩
  obtain rfl:s'=s:=an4 hs q1 h (q2.trans hx.symm);obtain ⟨e1,e2⟩:=abQ q3;exact ⟨e1,e2.trans q4⟩
 ·rintro ⟨e1,e2⟩
  have hl:s.seed.length=32:=by
   unfold pubE at e1;split at e1
   ·assumption
   ·cases e1
  exact ⟨s,h,hx,hl,((abQ hl).2).symm.trans e2⟩
theorem ai5 (arO v:Value)(t:List Nod)(own:List Sd)(K me:Nat)(w:World)(hu:NL w arO t)(hv:SL w v own)(hr:aab t K)(hth:aar t (me:Int))(hs:srt own)(hl:own.length≤1000)(hw:∀ k,k<own.length→-9223372036854775808≤(sdAt own k).node∧(sdAt own k).node≤9223372036854775807)(hTab:Tab w):
  Calls Tryz.prog 16 #[arO,.int .i64 (me:Int),v] w fun e w'=>aav e (abB t K (me:Int) own)∧Kp w w':=by
 obtain ⟨z1,z2,z3⟩:=hr.small;have hp2:=acc hr.le;have hK10:=hr.le;have hlen:=hr.len2;have hkind:=(hr.there_iff me).1 hth;have hlt2:=aab.lt_of (t:=t) (x:=2*me) (by rw[hkind];decide);have hme:me<2 ^ K:=by omega
 have HT:=Lib.hid (fun W (hW:Kp w W)=>abp arO t K (me:Int) W (hu.kp hW) hr);rw[decide_eq_true hth] at HT;have HRI:=Lib.hid (afO v own w hv);have hrise:=alG.2 hs;have HBN:=Lib.hid (fun W (hW:Kp w W)=>ac0 v own W (arM.kp hv hW) hs (by omega) hw);have HPO:=Lib.hid (fun W (hW:Kp w W)=>aic arO t K me W (hu.kp hW) hr hme (hTab.kp hW));have HIFF:=Lib.hid (akH (own:=own) hr hth hs);have HMY:=Lib.hid (fun j (h:j<(wayL K me).length) hg=>apJ (t:=t) (own:=own) h hg);have HMN:=Lib.hid (fun j (h:j<(wayL K me).length) hg=>aqX (t:=t) (own:=own) h hg);have HGI:=Lib.hid (fun x s (h:s∈own) (hx:s.node=((x:Nat):Int))=>apK (t:=t) hs h hx);have HGN:Hid (∀ x:Nat,(∀ s∈own,s.node≠(x:Int))→¬aex t own x):=fun x h ⟨s,h1,h2,_⟩=>h s h1 h2
 have HXL:Hid (∀ j,j<(wayL K me).length→(wayL K me).getD j 0<t.length):=fun j hj=>by
  have hm:(wayL K me).getD j 0∈wayL K me:=by rw[List.getD_eq_getElem?_getD,List.getElem?_eq_getElem hj];exact List.getElem_mem hj
  obtain ⟨X,hX⟩:∃ X,(wayL K me).getD j 0=X:=⟨_,rfl⟩;rw[hX] at hm ⊢;clear hX;unfold wayL at hm;rcases List.mem_append.1 hm with h | h
  ·rw[hr.len];exact aby hme h
  ·rw[List.mem_singleton] at h;rw[h];exact hlt2
 have hwl:(wayL K me).length=K+1:=by unfold wayL;rw[List.length_append,ae1];rfl
 have HWA:Hid (aah K 0 me++[2*me]=wayL K me):=rfl;have HWT:Hid ((wayL K me).take (wayL K me).length=wayL K me):=List.take_length;have HWJ:Hid (∀ j,j<(wayL K me).length→(wayL K me).take (j+1)=(wayL K me).take j++[(wayL K me).getD j 0]):=fun j hj=>by
  rw[List.take_succ_eq_append_getElem hj,List.getD_eq_getElem?_getD,List.getElem?_eq_getElem hj];rfl
 have HML:=Lib.hid (fun l=>aqY t own l);have HPN:Hid ((aah K 0 me).length≤1000000):=by unfold Hid;rw[ae1];omega
 have i2:IntKind.i64.wrap (2*(me:Int))=((2*me:Nat):Int):=by rw[IntWalk.i64_in _ (by omega)];omega
 have HU:=Lib.hid hu;have HIT:=Lib.hid (fun W (hW:Kp w W) (arO:Value) (seed:List UInt8) (x:Nat) (p q h:Value) (hs:Rd W arO seed) (hn:NIn W (ats t x) p q h)=>afZ arO seed (ats t x) p q h W hs hn);have HMK:=Lib.hid (fun W (hW:Kp w W) (x:Nat) (p q h:Value) (hn:NIn W (ats t x) p q h)=>af0 (ats t x) (me:Int) p q h W hn);have HMU:Hid (∀ x,aqH t (me:Int) x↔((ats t x).kind≠0∧(me:Int)∉(ats t x).un)):=fun x=>Iff.rfl
 obtain ⟨a,c,rfl,p1,s1⟩:=hu.shape;obtain ⟨av,cv,rfl,_,_⟩:=SE.shape hv;obtain ⟨R,hR⟩:∃ R,abB t K (me:Int) own=R:=⟨_,rfl⟩;rw[hR] at HIFF ⊢;obtain ⟨G,hG⟩:∃ G,aex t own=G:=⟨_,rfl⟩;obtain ⟨MT,hMT⟩:∃ M,metS t own=M:=⟨_,rfl⟩;obtain ⟨MU,hMU⟩:∃ M,aqH t (me:Int)=M:=⟨_,rfl⟩;have HIF2:Hid (R↔(∀ x∈wayL K me,G x∨¬MU x)∧MT (wayL K me)=own.length):=by
  unfold Hid;rw[← hG,← hMT,← hMU];exact HIFF.out
 have HMT0:Hid (MT []=0):=by unfold Hid;rw[← hMT];rfl
 simp only[hG,hMT,hMU] at HMY HMN HGI HGN HML HMU;clear HIFF hR hG hMT hMU;rw[hwl] at HMY HMN HXL HWT HWJ;generalize wayL K me=WL at *;generalize hM:K+1=M at *;generalize hN:t.length=N at *;generalize hON2:own.length=OL at *;generalize aah K 0 me=PT at *;have hMb:M≤11:=by omega
 have HWLN:=Lib.hid hwl;unfold maxLen at s1;clear hu hv hr hth hs hw hTab hp2 hK10 hlen hkind hlt2 hme z2 z3 hwl hM hN hON2;go_enter Tryz.func16,Tryz.ntmps16;go_wp2_with fail;refine (HT.out w (Kp.refl _)).mono ?_;rintro _ _ ⟨rfl,rfl⟩;go_wp2_with fail;refine HRI.out.mono ?_;rintro _ w2 ⟨⟨b2,rfl,hb2⟩,k2⟩;obtain rfl:b2=true:=hb2.2 hrise;have K2:=Lib.hid k2;clear hb2 HRI hrise HT k2;go_wp2_with fail;refine (HBN.out w2 K2.out).mono ?_;rintro _ w3 ⟨⟨rfl,hm3⟩,k3⟩;have HM3:=Lib.hid hm3;have K3:=Lib.hid (K2.out.trans k3);have HMB:Hid (w2.heap.size<w3.heap.size∧w.heap.size≤w2.heap.size):=⟨hm3.lt,K2.out.size⟩;clear hm3 k3 HBN;go_wp2_with fail;refine (HPO.out w3 K3.out).mono ?_;rintro _ w4 ⟨⟨pv,rfl,o4⟩,k4⟩;obtain ⟨a4,n4,c4,rfl⟩:=o4.rn.sl;have O4:=Lib.hid o4;have HSZ:Hid (w3.heap.size≤w4.heap.size):=k4.size;have K4:=Lib.hid (K3.out.trans k4);have K34:=Lib.hid k4;clear o4 k4 HPO;go_wp2_with (at_builtin;go_loud (refine adM (o:=⟨some 30,_,_,_,_,_⟩) ad0 rfl _ _ rfl w3.heap.size _ PT rfl (O4.out.kp ((Kp.refl w4).alloc _)) _ (2*me) rfl (ON.lit1 w4 3 (2*me)) HPN.out (Nat.le_trans HSZ.out (by simp)) ?_;intro v5 w5 o5 g5;rw[HWA.out] at o5;obtain ⟨a5,c5,e5,p5,s5⟩:=o5.rn.shape;rw[HWLN.out] at e5 p5;subst e5;have K35:Hid (Kp w3 w5):=Kp.grown (K34.out.alloc _) g5 (fun k hk=>O4.out.own_ge k hk)))
 have HM5:=Lib.hid (HM3.out.kp K35.out);have K5:=Lib.hid (K3.out.trans K35.out);have O5:=Lib.hid o5.rn;clear o5 g5 O4 K4 K34 HWA HPN HSZ;go_wp2_with fail;go_loopw[8,32] (fun x8 x32 wr=>∃ j:Nat,j≤M∧x32=.int .i64 (j:Int)∧x8=.int .i64 ((MT (WL.take j):Nat):Int)∧(∀ x∈WL.take j,G x∨¬MU x)∧Kp w5 wr) (fun _ x32 _=>(M - (intOf x32).toNat))
 case atStart=>exact ⟨0,Nat.zero_le _,rfl,by rw[List.take_zero,HMT0.out];rfl,fun x hx=>by simp at hx,Kp.refl _⟩
 case round=>
  obtain ⟨j,hj,rfl,rfl,hall,hkp⟩:=hrel;have KR:=Lib.hid hkp;have HALL:=Lib.hid hall;clear hall hkp;by_cases hlt:j<M
  ·obtain ⟨gl,ol,rfl,_,hcl⟩:=(O5.out.kp KR.out).at j hlt
   have d0:=hcl j hlt;have HXN:=Lib.hid (HXL.out j hlt);have hmyj:=HMY.out j hlt;have hmnj:=HMN.out j hlt;have hwj:=HWJ.out j hlt;have hxm:WL.getD j 0∈WL:=by rw[List.getD_eq_getElem?_getD,List.getElem?_eq_getElem (by rw[HWLN.out];exact hlt)];exact List.getElem_mem _
   have hml:=HML.out (WL.take j);rw[List.length_take] at hml;obtain ⟨X,hX⟩:∃ X,WL.getD j 0=X:=⟨_,rfl⟩;rw[hX] at d0 HXN hmyj hmnj hwj hxm;have HALJ:Hid ((G X∨¬MU X)→∀ x∈WL.take (j+1),G x∨¬MU x):=fun h x hx=>by
    rw[hwj] at hx;rcases List.mem_append.1 hx with hx | hx
    ·exact HALL.out x hx
    ·rw[List.mem_singleton] at hx;rw[hx];exact h
   have HXM:=Lib.hid hxm;generalize MT (WL.take j)=A0 at *;have HMYJ:=Lib.hid hmyj;have HMNJ:=Lib.hid hmnj;have hA0:A0≤11:=by omega
   have i1:IntKind.i64.wrap ((j:Int)+1)=(j:Int)+1:=IntWalk.i64_in _ (by omega);have i6:IntKind.i64.wrap ((A0:Int)+1)=((A0+1:Nat):Int):=by rw[IntWalk.i64_in _ (by omega)];omega
   have i3:(j:Int)<(M:Int):=by omega
   have i5:(X:Int)<(N:Int):=by have:=HXN.out;omega
   have hkey:Go.keyOf Tryz.prog 3 (.int .i64 (X:Int))=some (.int .i64 (X:Int)):=keyOf_int_mk Tryz.underlying3 (WalkArith.wf_i64 (by omega));have HMR:=Lib.hid (HM5.out.kp KR.out);have zs:=ab5 wr;obtain ⟨b,off,rfl,_,hc⟩:=HU.out.at X HXN.out;obtain ⟨p,q,h,hn⟩:=hc X HXN.out;have HND:=Lib.hid (fun W (hW:Kp w W)=>hn.kp hW);have HNI:Hid (∀ W,Kp w W→W.cell? ⟨b,off+X*5,none⟩=some (.int .i64 (ats t X).kind)∧W.cell? ⟨b,off+X*5+1,none⟩=some (.int .i64 (ats t X).name)∧W.cell? ⟨b,off+X*5+2,none⟩=some p∧W.cell? ⟨b,off+X*5+3,none⟩=some q∧W.cell? ⟨b,off+X*5+4,none⟩=some h):=
    fun W hW=>⟨(HND.out W hW).kind,(HND.out W hW).name,(HND.out W hW).pubC,(HND.out W hW).unC,(HND.out W hW).hashC⟩
   have HMKJ:=Lib.hid (fun W (hW:Kp wr W)=>HMK.out W (K5.out.trans (KR.out.trans hW)) X p q h (HND.out W (K5.out.trans (KR.out.trans hW))).2);obtain ⟨ap,np,cp,rfl⟩:=aac hn.2.pub;obtain ⟨aq,nq,cq,rfl⟩:=hn.2.un.sl;obtain ⟨ah,nh,ch,rfl⟩:=aac hn.2.hash;have HITJ:=Lib.hid (fun W (hW:Kp wr W) (arO:Value) (seed:List UInt8) (hs:Rd W arO seed)=>HIT.out W (K5.out.trans (KR.out.trans hW)) arO seed X _ _ _ hs (HND.out W (K5.out.trans (KR.out.trans hW))).2);clear hcl hmyj hmnj hwj hxm hml hX hn hc HWJ HMY HMN HML HXL HND HIT HMK;obtain ⟨NKD,hNKD⟩:∃ k,(ats t X).kind=k:=⟨_,rfl⟩;obtain ⟨NNM,hNNM⟩:∃ k,(ats t X).name=k:=⟨_,rfl⟩;have HMUX:=Lib.hid (HMU.out X);simp only[hNKD,hNNM] at HNI HMKJ HITJ HMUX;by_cases hin:∃ s∈own,s.node=(X:Int)
   ·obtain ⟨⟨SN,SS⟩,hs1,hs2⟩:=hin
    dsimp only at hs2
    have HGX:=Lib.hid (HGI.out X ⟨SN,SS⟩ hs1 hs2);subst hs2;clear HGI HGN hNKD hNNM;go_wp2_with (at_lookup;go_loud (refine aeW (e:=90) rfl _ _ 103 rfl abl Tryz.underlying103 zs rfl HMR.out ⟨(X:Int),SS⟩ hs1 rfl hkey ?_;intro qs hq;obtain ⟨a8,n8,c8,rfl⟩:=aac hq;dsimp only [sdV]))
    obtain ⟨WQ,hWQ⟩:∃ x,wr.alloc (.cells #[.int .i64 (X:Int),.slice a8 n8 c8] 90)=x:=⟨_,rfl⟩;have KQ:Hid (Kp wr WQ):=by unfold Hid;rw[← hWQ];exact (Kp.refl _).alloc _
    have cs1:WQ.cell? ⟨wr.heap.size,1,none⟩=some (.slice a8 n8 c8):=by rw[← hWQ];simp
    obtain ⟨e0,e1,e2,e3,e4⟩:=HNI.out WQ (K5.out.trans (KR.out.trans KQ.out));have HQ:=Lib.hid hq;try rw[hWQ]
    clear hWQ hq zs d0 hs1;go_region_with (first
     | (go_at_call 46;refine (HITJ.out _ (by first | exact KQ.out | exact KQ.out.drew) _ SS (by first | exact HQ.out.kp KQ.out | exact HQ.out.kp KQ.out.drew)).mono ?_;rintro _ w9 ⟨⟨b9,rfl,hb9⟩,k9⟩;have HB9:=Lib.hid hb9;have K9:Hid (Kp wr w9):=(show Kp wr _ from by first | exact KQ.out | exact KQ.out.drew).trans k9))
    all_goals (
     clear e0 e1 e2 e3 e4 cs1;cases b9
     ·have HNG:Hid (¬G X):=fun h=>by have:=HB9.out.2 (HGX.out.1 h);cases this
      obtain ⟨wz,hwz⟩:∃ x:World,x=w9:=⟨_,rfl⟩;subst hwz;have KZ:=Lib.hid K9.out;obtain ⟨e0,e1,e2,e3,e4⟩:=HNI.out wz (K5.out.trans (KR.out.trans KZ.out));go_wp2_with fail;refine (HMKJ.out wz KZ.out).mono ?_;rintro _ wy ⟨⟨b7,rfl,hb7⟩,k7⟩;have KY:=Lib.hid (KR.out.trans (KZ.out.trans k7));have HB7:=Lib.hid hb7;clear hb7 k7;cases b7
      ·have hnm:¬MU X:=fun h=>by have:=HB7.out.2 (HMUX.out.1 h);cases this
       have HAL:=Lib.hid (HALJ.out (.inr hnm));have hme:=HMNJ.out HNG.out;go_wp2_with fail;go_roundw
       case rel=>exact ⟨j+1,by omega,by first | rfl | (rw[i1];rfl),by rw[hme],HAL.out,KY.out⟩
       case measure=>simp[intOf];omega
      ·have HX:Hid (¬R):=fun h=>by
        rcases (HIF2.out.1 h).1 X HXM.out with h1 | h1
        ·exact HNG.out h1
        ·exact h1 (HMUX.out.2 (HB7.out.1 rfl))
       go_wp2_with fail;go_ret;exact ⟨aav.no HX.out,K5.out.trans KY.out⟩
     ·have HAL:=Lib.hid (HALJ.out (.inl (HGX.out.2 (HB9.out.1 rfl))))
      have hme:=HMYJ.out (HGX.out.2 (HB9.out.1 rfl));go_wp2_with fail;go_roundw
      case rel=>exact ⟨j+1,by omega,by first | rfl | (rw[i1];rfl),by first | (rw[hme];done) | (rw[hme];simp),HAL.out,KR.out.trans K9.out⟩
      case measure=>simp[intOf];omega)
   ·have HNG:Hid (¬G X):=HGN.out X fun s h e=>hin ⟨s,h,e⟩
    have hno:∀ s∈own,s.node≠(X:Int):=fun s h e=>hin ⟨s,h,e⟩
    clear HGI HGN hin hNKD hNNM;go_wp2_with (at_lookup;go_loud (refine afJ (e:=90) rfl _ _ 103 rfl abl Tryz.underlying103 zs rfl HMR.out (X:Int) hno rfl hkey ?_))
    refine wp_region_held_drew (S:=fun W=>True) (by kernel_rfl) (trivial) (fun hHeld=>?_);refine wpAnyH_take (i:=0) (oi:=⟨some 42,_,_,_,_,_⟩) (v:=?_) rfl (by kernel_rfl) (by kernel_rfl) (by kernel_rfl) (fun _ _ _ h=>h) (Or.inl ⟨by kernel_rfl,?_⟩) (by assumption) ?_;rotate_left;focus ((intro w hSw;(try dsimp only at hSw);go_simp);(try with_reducible rfl);done)
    simp only[Act.put,List.setIfInBounds_toArray,List.set_cons_zero,List.set_cons_succ];refine wpAnyH_take (i:=1) (oi:=⟨some 43,_,_,_,_,_⟩) (v:=?_) rfl (by kernel_rfl) (by kernel_rfl) (by kernel_rfl) (fun _ _ _ h=>h) (Or.inl ⟨by kernel_rfl,?_⟩) (by assumption) ?_;rotate_left;focus ((intro w hSw;(try dsimp only at hSw);go_simp);(try with_reducible rfl);done)
    simp only[Act.put,List.setIfInBounds_toArray,List.set_cons_zero,List.set_cons_succ];refine wpAnyH_take (i:=2) (oi:=⟨some 44,_,_,_,_,_⟩) (v:=undef) rfl (by kernel_rfl) (by kernel_rfl) (by kernel_rfl) (fun _ _ _ h=>h) (Or.inr ⟨by kernel_rfl,rfl⟩) (by assumption) ?_;simp only[Act.put,List.setIfInBounds_toArray,List.set_cons_zero,List.set_cons_succ];refine wpAnyH_take (i:=3) (oi:=⟨some 45,_,_,_,_,_⟩) (v:=undef) rfl (by kernel_rfl) (by kernel_rfl) (by kernel_rfl) (fun _ _ _ h=>h) (Or.inr ⟨by kernel_rfl,rfl⟩) (by assumption) ?_;simp only[Act.put,List.setIfInBounds_toArray,List.set_cons_zero,List.set_cons_succ];refine wpAnyH_take (i:=4) (oi:=⟨some 46,_,_,_,_,_⟩) (v:=undef) rfl (by kernel_rfl) (by kernel_rfl) (by kernel_rfl) (fun _ _ _ h=>h) (Or.inr ⟨by kernel_rfl,rfl⟩) (by assumption) ?_;simp only[Act.put,List.setIfInBounds_toArray,List.set_cons_zero,List.set_cons_succ];refine wpAnyH_take (i:=5) (oi:=⟨some 47,_,_,_,_,_⟩) (v:=undef) rfl (by kernel_rfl) (by kernel_rfl) (by kernel_rfl) (fun _ _ _ h=>h) (Or.inr ⟨by kernel_rfl,rfl⟩) (by assumption) ?_;simp only[Act.put,List.setIfInBounds_toArray,List.set_cons_zero,List.set_cons_succ];refine wpAnyH_take (i:=6) (oi:=⟨some 48,_,_,_,_,_⟩) (v:=undef) rfl (by kernel_rfl) (by kernel_rfl) (by kernel_rfl) (fun _ _ _ h=>h) (Or.inr ⟨by kernel_rfl,rfl⟩) (by assumption) ?_;simp only[Act.put,List.setIfInBounds_toArray,List.set_cons_zero,List.set_cons_succ];refine wpAnyH_take (i:=7) (oi:=⟨some 49,_,_,_,_,_⟩) (v:=undef) rfl (by kernel_rfl) (by kernel_rfl) (by kernel_rfl) (fun _ _ _ h=>h) (Or.inr ⟨by kernel_rfl,rfl⟩) (by assumption) ?_;simp only[Act.put,List.setIfInBounds_toArray,List.set_cons_zero,List.set_cons_succ];refine wpAnyH_take (i:=8) (oi:=⟨some 50,_,_,_,_,_⟩) (v:=undef) rfl (by kernel_rfl) (by kernel_rfl) (by kernel_rfl) (fun _ _ _ h=>h) (Or.inr ⟨by kernel_rfl,rfl⟩) (by assumption) ?_;simp only[Act.put,List.setIfInBounds_toArray,List.set_cons_zero,List.set_cons_succ];refine wpAnyH_take (i:=9) (oi:=⟨some 51,_,_,_,_,_⟩) (v:=?_) rfl (by kernel_rfl) (by kernel_rfl) (by kernel_rfl) (fun _ _ _ h=>h) (Or.inl ⟨by kernel_rfl,?_⟩) (by assumption) ?_;rotate_left;focus ((intro w hSw;(try dsimp only at hSw);go_simp);(try with_reducible rfl);done)
    simp only[Act.put,List.setIfInBounds_toArray,List.set_cons_zero,List.set_cons_succ];refine wpAnyH_done (by kernel_rfl) ?_ _;obtain ⟨wz,hwz⟩:∃ x,(wr.alloc (.cells #[.int .i64 0,.slice none 0 0] 90)).drew=x:=⟨_,rfl⟩;have KZ:Hid (Kp wr wz):=by unfold Hid;rw[← hwz];exact ((Kp.refl _).alloc _).drew
    rw[hwz];clear hwz zs;obtain ⟨e0,e1,e2,e3,e4⟩:=HNI.out wz (K5.out.trans (KR.out.trans KZ.out));go_wp2_with fail;refine (HMKJ.out wz KZ.out).mono ?_;rintro _ wy ⟨⟨b7,rfl,hb7⟩,k7⟩;have KY:=Lib.hid (KR.out.trans (KZ.out.trans k7));have HB7:=Lib.hid hb7;clear hb7 k7;cases b7
    ·have hnm:¬MU X:=fun h=>by have:=HB7.out.2 (HMUX.out.1 h);cases this
     have HAL:=Lib.hid (HALJ.out (.inr hnm));have hme:=HMNJ.out HNG.out;go_wp2_with fail;go_roundw
     case rel=>exact ⟨j+1,by omega,by first | rfl | (rw[i1];rfl),by rw[hme],HAL.out,KY.out⟩
     case measure=>simp[intOf];omega
    ·have HX:Hid (¬R):=fun h=>by
      rcases (HIF2.out.1 h).1 X HXM.out with h1 | h1
      ·exact HNG.out h1
      ·exact h1 (HMUX.out.2 (HB7.out.1 rfl))
     go_wp2_with fail;go_ret;exact ⟨aav.no HX.out,K5.out.trans KY.out⟩
  ·obtain rfl:j=M:=by omega
   have h1:¬(j:Int)<(j:Int):=by omega
   have hmt:=HALL.out;rw[HWT.out] at hmt ⊢;have HAL:=Lib.hid hmt;have hif:=HIF2.out;have HFIN:Hid ((decide ((MT WL:Nat)=OL))=true↔R):=by
    unfold Hid;rw[hif,decide_eq_true_iff];exact ⟨fun h=>⟨HAL.out,h⟩,fun h=>h.2⟩
   have hde:(((MT WL:Nat):Int)==(OL:Int))=decide ((MT WL:Nat)=OL):=by
    by_cases e:MT WL=OL
    ·rw[e,decide_eq_true rfl];exact beq_self_eq_true _
    ·rw[decide_eq_false e];exact beq_eq_false_iff_ne.2 fun h=>e (by omega)
   generalize MT WL=A0 at *;clear hmt hif HML HMY HMN HMT0;go_wp2_with fail;go_ret;exact ⟨⟨_,rfl,HFIN.out⟩,K5.out.trans KR.out⟩
theorem ae3 (arO v:Value)(t:List Nod)(own:List Sd)(K:Nat)(me:Int)(w:World)(hu:NL w arO t)(hv:SL w v own)(hr:aab t K)(hl:own.length≤1000)(hw:∀ k,k<own.length→-9223372036854775808≤(sdAt own k).node∧(sdAt own k).node≤9223372036854775807)(hTab:Tab w):
  Calls Tryz.prog 16 #[arO,.int .i64 me,v] w fun e w'=>aav e (abB t K me own)∧Kp w w':=by
 by_cases hth:aar t me
 ·obtain ⟨k,rfl⟩:=Int.eq_ofNat_of_zero_le hth.1
  by_cases hs:srt own
  ·exact ai5 arO v t own K k w hu hv hr hth hs hl hw hTab
  ·have HT:=Lib.hid (fun W (hW:Kp w W)=>abp arO t K (k:Int) W (hu.kp hW) hr)
   rw[decide_eq_true hth] at HT;have HRI:=Lib.hid (afO v own w hv);have hrise:¬amD own:=fun h=>hs (alG.1 h)
   have HX:Hid (¬abB t K (k:Int) own):=fun h=>hs (akI h)
   obtain ⟨a,c,rfl,p1,s1⟩:=hu.shape;obtain ⟨av,cv,rfl,_,_⟩:=SE.shape hv;generalize abB t K (k:Int) own=R at *;generalize own.length=OL at *;generalize t.length=N at *;clear hu hv hr hth hs hw hTab;go_enter Tryz.func16,Tryz.ntmps16;go_wp2_with fail;refine (HT.out w (Kp.refl _)).mono ?_;rintro _ _ ⟨rfl,rfl⟩;go_wp2_with fail;refine HRI.out.mono ?_;rintro _ w2 ⟨⟨b2,rfl,hb2⟩,k2⟩;have K2:=Lib.hid k2;cases b2
   ·clear hb2 HRI hrise HT k2
    go_wp2_with fail;go_ret;exact ⟨aav.no HX.out,K2.out⟩
   ·exact absurd (hb2.1 rfl) hrise
 ·have HT:=Lib.hid (fun W (hW:Kp w W)=>abp arO t K me W (hu.kp hW) hr)
  rw[decide_eq_false hth] at HT;have HX:Hid (¬abB t K me own):=fun h=>hth h.1
  obtain ⟨a,c,rfl,p1,s1⟩:=hu.shape;obtain ⟨av,cv,rfl,_,_⟩:=SE.shape hv;generalize abB t K me own=R at *;generalize own.length=OL at *;generalize t.length=N at *;clear hu hv hr hth hw hTab;go_enter Tryz.func16,Tryz.ntmps16;go_wp2_with fail;refine (HT.out w (Kp.refl _)).mono ?_;rintro _ _ ⟨rfl,rfl⟩;go_wp2_with fail;go_ret;exact ⟨aav.no HX.out,Kp.refl _⟩
end Go.Proofs.YthmhklmkgkfcpaaGreatDoor
