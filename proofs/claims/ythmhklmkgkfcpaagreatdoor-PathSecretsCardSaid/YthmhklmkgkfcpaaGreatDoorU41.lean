import Derived.Test.YthmhklmkgkfcpaaGreatDoorU25
import Derived.Test.YthmhklmkgkfcpaaGreatDoorU30
import Derived.Test.YthmhklmkgkfcpaaGreatDoorU32
import Derived.Test.YthmhklmkgkfcpaaGreatDoorU35
import Derived.Test.YthmhklmkgkfcpaaGreatDoorU38
import Derived.Test.YthmhklmkgkfcpaaGreatDoorU39
import Derived.Test.YthmhklmkgkfcpaaGreatDoorU40
import Derived.Deep.RegionHeld3
set_option linter.unusedVariables false
set_option linter.unusedSimpArgs false
set_option maxHeartbeats 8000000
set_option maxRecDepth 100000
namespace Go.Proofs.YthmhklmkgkfcpaaGreatDoor
open Go.RowKit
theorem amP (arO n s:Value)(t:List Nod)(K i:Nat)(x:Nat)(w0:World)(hu:WIn w0 arO n s t K i)(hx:x<t.length):
  ∃ p,Rd w0 p (ats t x).pub∧∀ W,Kp w0 W→Calls Tryz.prog 103 #[.agg #[arO,.int .i64 (i:Int),n,s],.int .i64 (x:Int)] W fun e w'=>e=.returned p∧Kp W w':=by
 obtain ⟨au,cu,rfl,p1,s1⟩:=hu.tree.shape;obtain ⟨b,off,rfl,_,hc⟩:=hu.tree.at x hx;obtain ⟨p,q,h,hn⟩:=hc x hx;obtain ⟨an,nn,cn,rfl⟩:=hu.nodes.sl;obtain ⟨as',ns',cs',rfl⟩:=SE.sl hu.steps;refine ⟨p,hn.2.pub,fun W hW=>?_⟩;have K1:Hid (Kp W (W.alloc (.cells #[.slice (some ⟨b,off,none⟩) t.length cu,.int .i64 (i:Int),.slice an nn cn,.slice as' ns' cs'] 95))):=(Kp.refl _).alloc _;have c2:=(hn.kp (hW.trans K1.out)).pubC;obtain ⟨ap,np,cp,rfl⟩:=aac hn.2.pub;have i1:¬(x:Int)<0:=by omega
 have i2:¬(t.length:Int)≤(x:Int):=by omega
 have i3:(x:Int)<(t.length:Int):=by omega
 generalize (ats t x).pub=PUB at *;generalize t.length=N at *;clear hu hc hn;go_enter Tryz.func103,Tryz.ntmps103;go_wp2_with fail;go_ret;exact ⟨rfl,K1.out⟩
theorem Kp.stepOld {Y:Nat→Prop}{w0 A B:World}(h:Kp w0 A)(s:Step Y A B)(hY:∀ g,Y g→w0.heap.size≤g):Kp w0 B:=
 ⟨s.os.trans h.os,s.tape.trans h.tape,s.output.trans h.output,Nat.le_trans h.size s.size,fun q hq=>(s.block q (Nat.lt_of_lt_of_le hq h.size) (fun e=>by have:=hY q e;omega)).trans (h.block q hq)⟩
theorem Step.next {Y:Nat→Prop}{A B C:World}(h:Step Y A B)(s:Step Y B C):Step Y A C:=
 ⟨s.os.trans h.os,s.tape.trans h.tape,s.output.trans h.output,Nat.le_trans h.size s.size,fun q hq hn=>(s.block q (Nat.lt_of_lt_of_le hq h.size) hn).trans (h.block q hq hn)⟩
theorem ahc (arO n s q vs vi:Value)(t:List Nod)(K i:Nat)(cov:List Int)(x:Int)(sec info secret:List UInt8)(m gc gs:Nat)(w0 w:World)(h0:Kp w0 w)(hu:WIn w0 arO n s t K i)(hq:RI w0 q cov)(hs:RZ (fun g=>g=gc) w vs sec)(hi:Rd w0 vi info)
  (ho:abD w gc gs secret m) (hgc:w0.heap.size≤gc) (hcov:∀ j,j<cov.length→∃ y:Nat,cov.getD j 0=(y:Int)∧y<t.length∧(ats t y).pub.length=32) (hcl:cov.length≤2048) (hm:m≤100000) (h32:secret.length=32) (hs32:sec.length≤1600) (hil:info.length≤1400):
  Calls Tryz.prog 58 #[.agg #[arO,.int .i64 (i:Int),n,s],.agg #[.int .i64 x,q],vs,vi,.func (.func 99) #[] #[.pointer (some ⟨gc,0,none⟩),.pointer (some ⟨gs,0,none⟩)]] w fun e w'=>
   (∃ v,e=.returned (.tuple #[v,.int .i64 0])∧GZ shSe 92 (fun g=>g<w.heap.size) w' w.heap.size v (abW t secret info sec m cov))∧abD w' gc gs secret (m+cov.length)∧Step (fun g=>g=gc) w w':=by
 have HPUB:=Lib.hid (fun y (hy:y<t.length)=>amP arO n s t K i y w0 hu hy);have HON:=Lib.hid (fun W k (h:abD W gc gs secret k) (hk:k<1000000)=>ai1 gc gs k secret W h hk (by omega));have HWR:=Lib.hid (fun W (hW:Kp w0 W) (vp vo:Value) (pub once:List UInt8) (hp:Rd W vp pub) (h:Rd W vo once) (hsW:Rd W vs sec)=>akW vp vo vi vs pub once info sec W hp h (hi.kp hW) hsW hil hs32);have HSC:=Lib.hid hs;have HOK:=Lib.hid (fun (pub:List UInt8) k (hp:pub.length=32)=>(ais (pub:=pub) (once:=ac6 secret k) info sec ⟨acg _ _ _,hp⟩).1);have HWT:=Lib.hid (fun j (hj:j<cov.length)=>amn (t:=t) (secret:=secret) (info:=info) (s:=sec) (n:=m) (j:=j) (l:=cov) hj);have HWE:Hid ((abW t secret info sec m cov).take cov.length=abW t secret info sec m cov):=by unfold Hid;rw[← ach t secret info sec cov m,List.take_length]
 have HCV:=Lib.hid hcov;have HQ:=Lib.hid hq;have HGC:=Lib.hid hgc;obtain ⟨au,nu,cu,rfl⟩:=hu.tree.sl;obtain ⟨an,nn,cn,rfl⟩:=hu.nodes.sl;obtain ⟨as',ns',cs',rfl⟩:=SE.sl hu.steps;obtain ⟨aq,cq,rfl,p1,s1⟩:=hq.shape;obtain ⟨ah,nh,ch,rfl⟩:=aac hs.1;obtain ⟨ai,ni,ci,rfl⟩:=aac hi;obtain ⟨J,hJ⟩:∃ J,cov.length=J:=⟨_,rfl⟩;rw[hJ] at HWT HWE HCV HQ p1 hcl ⊢;have HO:=Lib.hid ho;have H0:=Lib.hid h0;have hgw:Hid (gc<w.heap.size):=(Array.getElem?_eq_some_iff.1 ho.cnt).1;clear hu hq hs hi ho h0 hcov hJ h32 hil hs32 hgc;go_enter Tryz.func58,Tryz.ntmps58;go_wp2_with fail;obtain ⟨w1,hw1⟩:∃ w1,(w.alloc (.cells #[.slice au nu cu,.int .i64 (i:Int),.slice an nn cn,.slice as' ns' cs'] 95)).alloc (.cells #[.int .i64 x,.slice aq J cq] 99)=w1:=⟨_,rfl⟩;have HB:Hid (Bx w1 w.heap.size 95 #[.slice au nu cu,.int .i64 (i:Int),.slice an nn cn,.slice as' ns' cs']):=by unfold Hid;rw[← hw1];exact (Bx.new w _ _).kp ((Kp.refl _).alloc _)
 have K1:Hid (Kp w w1):=by unfold Hid;rw[← hw1];exact ((Kp.refl _).alloc _).alloc _
 rw[hw1];clear hw1;go_loopw[12,21] (fun x12 x21 wr=>∃ j:Nat,j≤J∧x21=.int .i64 (j:Int)∧GZ shSe 92 (fun g=>g<w1.heap.size) wr w1.heap.size x12 ((abW t secret info sec m cov).take j)∧abD wr gc gs secret (m+j)∧Step (fun g=>g=gc) w1 wr) (fun _ x21 _=>(J - (intOf x21).toNat))
 case atStart=>exact ⟨0,Nat.zero_le _,rfl,GZ.nil _ _ _,HO.out.kp K1.out,Step.refl _ _⟩
 case round=>
  obtain ⟨j,hj,rfl,hgz,hon,hst⟩:=hrel;have HI:=Lib.hid (And.intro hgz (And.intro hon hst));have KW:Hid (Kp w0 wr):=Kp.stepOld (H0.out.trans K1.out) hst fun g hg=>by rw[hg];exact HGC.out
  obtain ⟨ax,nx,cx,rfl⟩:=SE.sl hgz.gl;clear hgz hon hst;by_cases hlt:j<J
  ·obtain ⟨gq,oq,rfl,_,hcq⟩:=(HQ.out.kp KW.out).at j hlt
   have c0:=hcq j hlt;obtain ⟨y,hy1,hy2,hy3⟩:=HCV.out j hlt;rw[hy1] at c0;obtain ⟨pv,rp,HPC0⟩:=HPUB.out y hy2;have HPC:=Lib.hid HPC0;have RP:=Lib.hid rp;obtain ⟨ap,np,cp,rfl⟩:=aac rp;have HE0:=Lib.hid (HOK.out (ats t y).pub (m+j) hy3);have HWJ:Hid ((abW t secret info sec m cov).take (j+1)=(abW t secret info sec m cov).take j++[⟨ahn (ats t y).pub (ac6 secret (m+j)),aho (ats t y).pub (ac6 secret (m+j)) info sec⟩]):=by
    have:=HWT.out j hlt;unfold seS at this;rw[hy1,Int.toNat_natCast] at this;exact this
   have i1:IntKind.i64.wrap ((j:Int)+1)=(j:Int)+1:=IntWalk.i64_in _ (by omega);have i3:(j:Int)<(J:Int):=by omega
   have hb:=HB.out;have hbr:Bx wr w.heap.size 95 #[.slice au nu cu,.int .i64 (i:Int),.slice an nn cn,.slice as' ns' cs']:=(HI.out.2.2.block w.heap.size (Array.getElem?_eq_some_iff.1 hb).1 (fun e=>by have:=hgw.out;omega)).trans hb;have e0:=hbr.cell 0;have e1:=hbr.cell 1;have e2:=hbr.cell 2;have e3:=hbr.cell 3;simp only[List.getElem?_toArray,List.getElem?_cons_zero,List.getElem?_cons_succ] at e0 e1 e2 e3;have HTL:Hid (((abW t secret info sec m cov).take j).length+1≤1000000):=by unfold Hid;rw[List.length_take];omega
   generalize hTK:(abW t secret info sec m cov).take j=TK at *;generalize (ats t y).pub=PUB at *;clear hcq hy1 HPC0 rp hTK hb hbr HPUB HCV HOK HWT HWE;go_wp2_with fail;refine (HPC.out wr KW.out).mono ?_;rintro _ wa ⟨rfl,ka⟩;have KA:=Lib.hid ka;clear ka;go_wp2_with (go_at_call 99;refine (HON.out wa (m+j) (HI.out.2.1.kp KA.out) (by omega)).mono ?_;rintro _ wb ⟨⟨v30,rfl,rb,nb⟩,hob,hsb⟩)
   obtain ⟨a30,n30,c30,rfl⟩:=aac rb;have KWB:Hid (Kp w0 wb):=Kp.stepOld (KW.out.trans KA.out) hsb fun g hg=>by rw[hg];exact HGC.out
   have HGB:Hid (GZ shSe 92 (fun g=>g<w1.heap.size) wb w1.heap.size (.slice ax nx cx) TK):=
    (HI.out.1.kp KA.out).step (Y:=fun g=>g=gc) hsb (fun g hg=>.inl (by have:=hgw.out;have:=K1.out.size;omega)) (fun g hg e=>by have:=(HI.out.1.lt g hg).1;have:=hgw.out;have:=K1.out.size;omega)
   have HSW:Hid (Step (fun g=>g=gc) w1 wb):=(HI.out.2.2.next (Step.of_kp KA.out)).next hsb;have HOB:=Lib.hid hob;have HSZ:Hid (w1.heap.size≤wr.heap.size∧wr.heap.size≤wb.heap.size):=⟨HI.out.2.2.size,Nat.le_trans KA.out.size hsb.size⟩;have HLT:Hid (∀ g,(Value.slice ax nx cx).ownBlock=some g→g<wr.heap.size):=fun g hg=>(HI.out.1.lt g hg).2
   refine (HWR.out wb KWB.out _ _ PUB (ac6 secret (m+j)) (RP.out.kp KWB.out) rb (HSC.out.step ((Step.of_kp K1.out).next HSW.out)).1).mono ?_;rintro _ wc ⟨⟨vh,vb,rfl,rh,rb2,nh,nb2⟩,kc⟩;rw[HE0.out];obtain ⟨ah',nh',ch',rfl⟩:=aac rh;obtain ⟨ab',nb',cb',rfl⟩:=aac rb2;have HEL:Hid (shSe.R (fun g=>some g=(Value.slice ax nx cx).ownBlock∨g<w1.heap.size) wc [.slice ah' nh' ch',.slice ab' nb' cb'] ⟨ahn PUB (ac6 secret (m+j)),aho PUB (ac6 secret (m+j)) info sec⟩):=
    ⟨_,_,rfl,⟨rh,aaX (C:=wb.heap.size) nh fun g hg=>hg.elim (fun h=>by have:=HLT.out g h.symm;have:=HSZ.out;omega) fun h=>by have:=HSZ.out;omega⟩,
     ⟨rb2,aaX (C:=wb.heap.size) nb2 fun g hg=>hg.elim (fun h=>by have:=HLT.out g h.symm;have:=HSZ.out;omega) fun h=>by have:=HSZ.out;omega⟩⟩
   have HG2:=Lib.hid (HGB.out.kp kc);have KC:=Lib.hid kc;have HBS:Hid (w1.heap.size≤wc.heap.size):=by have:=HSZ.out;have:=kc.size;unfold Hid;omega
   clear rh rb2 nh nb2 kc rb nb hob hsb e0 e1 e2 e3 c0;go_wp2_with (at_builtin;refine aa5 (S:=shSe) (Z:=fun g=>g<w1.heap.size) (o:=⟨some 45,_,_,_,_,_⟩) seK rfl _ _ rfl w1.heap.size _ TK rfl (HG2.out.kp ((Kp.refl _).alloc _)) _ [_] rfl (SE.litZ (S:=shSe) 92 HEL.out rfl) (by exact HTL.out) (Nat.le_trans HBS.out (by simp)) ?_;intro vF wh oh gh qh)
   rw[← HWJ.out] at oh;have HFIN:Hid (abD wh gc gs secret (m+(j+1))∧Step (fun g=>g=gc) w1 wh):=by
    have hs1:Step (fun g=>g=gc) w1 wh:=((HSW.out.next (Step.of_kp KC.out)).next (Step.of_kp ((Kp.refl _).alloc _))).then gh fun g hg=>.inl (HG2.out.lt g hg).1
    have ho:=(HOB.out.kp KC.out).kp ((Kp.refl wc).alloc (.cells #[.slice ah' nh' ch',.slice ab' nb' cb'] 92));have l1:gc<w1.heap.size:=by have:=hgw.out;have:=K1.out.size;omega
    obtain ⟨_,⟨v,h2,h3⟩,h4⟩:=HO.out;have hsw:Step (fun g=>g=gc) w wh:=(Step.of_kp K1.out).next hs1;exact ⟨⟨ho.cnt.grown gh (fun e=>by have:=(HG2.out.lt _ e.symm).1;omega),⟨v,(hsw.block gs (Array.getElem?_eq_some_iff.1 h2).1 (fun e=>h4 e.symm)).trans h2,h3.step hsw⟩,h4⟩,hs1⟩
   go_roundw
   case rel=>exact ⟨j+1,by omega,by first | rfl | (rw[i1];rfl),oh,HFIN.out.1,HFIN.out.2⟩
   case measure=>simp[intOf];omega
  ·obtain rfl:j=J:=by omega
   have h1:¬(j:Int)<(j:Int):=by omega
   have hgz:=HI.out.1;rw[HWE.out] at hgz;have HF:=Lib.hid (And.intro ((hgz.solidly fun g hg=>.inr (.inl (show g<w1.heap.size from Nat.lt_of_lt_of_le hg K1.out.size))).mono K1.out.size) (And.intro HI.out.2.1 ((Step.of_kp K1.out).next HI.out.2.2)));clear hgz HPUB HCV HOK HWT HWE;go_wp2_with fail;go_ret2;exact ⟨⟨_,rfl,HF.out.1⟩,HF.out.2.1,HF.out.2.2⟩
end Go.Proofs.YthmhklmkgkfcpaaGreatDoor
namespace Go.Proofs.YthmhklmkgkfcpaaGreatDoor
open Go.RowKit Go.Maps
theorem aj8 {l:List Nat}{k j:Nat}:(l.drop k).getD j 0=l.getD (k+j) 0:=by
 rw[List.getD_eq_getElem?_getD,List.getD_eq_getElem?_getD,List.getElem?_drop]
theorem ahd (arO n s x y vs:Value)(t:List Nod)(K i k m cnt:Nat)(S:Sd→Prop)(sec:List UInt8)(p:Pa)(w:World)(hu:WIn w arO n s t K i)(hm:KM Tryz.prog 3 w m cnt S)(hp:PIn w x y p)(hv:Rd w vs sec)(h32:sec.length=32)
  (hk:k<(ixS t i K).length) (hM:(ixS t i K).length≤10) (hpl:p.step.length=(ixS t i K).length) (hcnt:cnt≤100000) (hd:∀ a,S a→∀ z∈(aaa t i K).drop k,a.node≠((z:Nat):Int)) (hlt:∀ z∈aaa t i K,z≤100000):
  Calls Tryz.prog 71 #[.agg #[arO,.int .i64 (i:Int),n,s],.int .i64 (k:Int),.map (some m),vs,.agg #[x,y]] w fun e w'=>
   (∃ r E,e=.returned (.tuple #[r,.int .i64 E])∧((adZ p.step sec k (ixS t i K).length∧E=0∧Rd w' r (secS sec ((ixS t i K).length - k))∧KM Tryz.prog 3 w' m (cnt+((ixS t i K).length - k)) (hldS S sec ((aaa t i K).drop k) ((ixS t i K).length - k)))∨(¬adZ p.step sec k (ixS t i K).length∧E=5∧Rd w' r [])))∧Step (fun g=>g=m) w w':=by
 have hsl:=(aax t i K).1;have hst:=abU t i K;have HOF:=Lib.hid (fun W (hW:Kp w W)=>ad9 vs sec ((ixS t i K).length - k) W (hv.kp hW) h32 (by omega));have hnd:((aaa t i K).drop k).Nodup:=(abo t i K).sublist (List.drop_sublist _ _);have hxl:((aaa t i K).drop k).length=(ixS t i K).length - k:=by rw[List.length_drop,hsl]
 have HSU:=Lib.hid (fun j (h:j<(ixS t i K).length - k) (z:Sd)=>ajY (own:=S) (s:=sec) (n:=j) hnd hd (by rw[hxl];exact h) z);have HS0:=Lib.hid (fun z=>ajX (own:=S) (s:=sec) (xs:=(aaa t i K).drop k) z);have HSP:=Lib.hid (fun a (h:a<(ixS t i K).length)=>aey (t:=t) (i:=i) (m:=K) h);have HXB:Hid (∀ j,j<(ixS t i K).length - k→((aaa t i K).drop k).getD j 0=(aaa t i K).getD (k+j) 0∧(aaa t i K).getD (k+j) 0≤100000):=fun j hj=>⟨aj8,hlt _ (by rw[List.getD_eq_getElem?_getD,List.getElem?_eq_getElem (by omega)];exact List.getElem_mem _)⟩
 have HHV:Hid (adZ p.step sec k (ixS t i K).length↔∀ j,j<(ixS t i K).length - k→pubB (aaL sec j)=(stAt p.step (k+j)).pub):=⟨fun h j hj=>h j (by omega),fun h j hj=>h j (by omega)⟩;have HPB:Hid (∀ j,pubR (aaL sec j)=pubB (aaL sec j)):=fun j=>(abQ (acP _ abR)).2
 have HSD:Hid (∀ j,derB (secS sec j) abR=aaL sec j):=fun j=>rfl
 have HLS:Hid (adY sec ((ixS t i K).length - k)=secS sec ((ixS t i K).length - k)):=by unfold Hid adY;rw[if_neg (by omega)]
 have HEA:=Lib.hid (fun j (h:j<(ixS t i K).length - k)=>aiH sec h);have HEL:=Lib.hid (aci sec ((ixS t i K).length - k));have HSO:=Lib.hid (fun W (x:Int) (q v:Value) (c:List Int) j (hq:RI W q c) (hv:Rd W v (secS sec j))=>aem x q v c (secS sec j) W hq hv (by rw[ab8 h32 j];omega));have HPU:=Lib.hid (fun W (arO:Value) j (hu:Rd W arO (aaL sec j))=>aej arO (aaL sec j) W hu);simp only[HPB.out] at HPU;simp only[HSD.out] at HSO;have HBE:=Lib.hid (fun W (arO v:Value) (l m:List UInt8) (hu:Rd W arO l) (hv:Rd W v m)=>abj arO v l m W hu hv);have HWS:=Lib.hid hu.steps;have HST:=Lib.hid hp.step;have HM:=Lib.hid hm;obtain ⟨au,nu,cu,rfl⟩:=hu.tree.sl;obtain ⟨an,nn,cn,rfl⟩:=hu.nodes.sl;obtain ⟨as',cs',rfl,q5,q6⟩:=SE.shape hu.steps;obtain ⟨ap,np,cp,rfl⟩:=aac hp.pub;obtain ⟨a6,c6,rfl,q9,q10⟩:=SE.shape hp.step;obtain ⟨gs,os,rfl,_,_⟩:=SE.at hu.steps (by omega);obtain ⟨gp,op,rfl,_,_⟩:=SE.at hp.step (by omega);obtain ⟨av,nv,cv,rfl⟩:=aac hv;rw[hst] at q5 HWS ⊢;rw[hpl] at q9 HST ⊢;generalize adZ p.step sec k (ixS t i K).length=HP at *;generalize hldS S sec ((aaa t i K).drop k)=HL at *;generalize (aaa t i K).drop k=XS at *;generalize aaa t i K=ST at *;have HLP:=Lib.hid hpl;have HLW:=Lib.hid hst;generalize (ixS t i K).length=M at *;obtain ⟨J,hJ⟩:∃ J,M - k=J:=⟨_,rfl⟩;have hMk:M=k+J:=by omega
 have hJ0:0<J∧J≤10:=by omega
 rw[hJ] at HOF HSU HXB HHV HLS HEA HEL ⊢;have i2:IntKind.i64.wrap ((M:Int) - (k:Int))=(J:Int):=by rw[IntWalk.i64_in _ (by omega)];omega
 unfold maxLen at q6 q10;have hkM:¬(M:Int)<(k:Int):=by omega
 have hcM:(M:Int)≤(cs':Int):=by omega
 have HMK:=Lib.hid hMk;clear hu hm hp hv h32 hpl hd hlt hsl hst hnd hxl hMk;go_enter Tryz.func71,Tryz.ntmps71;go_wp2_with fail;obtain ⟨w1,hw1⟩:∃ w1,(w.alloc (.cells #[.slice au nu cu,.int .i64 (i:Int),.slice an nn cn,.slice (some ⟨gs,os,none⟩) M cs'] 95)).alloc (.cells #[.slice ap np cp,.slice (some ⟨gp,op,none⟩) M c6] 27)=w1:=⟨_,rfl⟩;have HB:Hid (Bx w1 w.heap.size 95 #[.slice au nu cu,.int .i64 (i:Int),.slice an nn cn,.slice (some ⟨gs,os,none⟩) M cs']):=by unfold Hid;rw[← hw1];exact (Bx.new w _ _).kp ((Kp.refl _).alloc _)
 have HBP:Hid (Bx w1 (w.heap.size+1) 27 #[.slice ap np cp,.slice (some ⟨gp,op,none⟩) M c6]):=by
  unfold Hid;have:=Bx.new (w.alloc (.cells #[.slice au nu cu,.int .i64 (i:Int),.slice an nn cn,.slice (some ⟨gs,os,none⟩) M cs'] 95)) 27 #[.slice ap np cp,.slice (some ⟨gp,op,none⟩) M c6];rw[World.size_alloc] at this;rw[← hw1];exact this
 have K1:Hid (Kp w w1):=by unfold Hid;rw[← hw1];exact ((Kp.refl _).alloc _).alloc _
 rw[hw1];clear hw1;refine (HOF.out w1 K1.out).mono ?_;rintro _ w2 ⟨⟨o2,r2,rfl,hg2,hr2,_⟩,k2⟩;obtain ⟨ae,ce,rfl,q1,q2⟩:=SE.shape hg2;rw[HEL.out] at hg2 q1 ⊢;obtain ⟨ge,oe,rfl,_,_⟩:=SE.at hg2 hJ0.1;obtain ⟨ar,nr,cr,rfl⟩:=aac hr2;rw[HLS.out] at hr2;have HG2:=Lib.hid hg2;have HR2:=Lib.hid hr2;have K2:=Lib.hid k2;have KW2:=Lib.hid (K1.out.trans k2);have HM2:=Lib.hid (HM.out.kp KW2.out);have d3:=(HB.out.kp k2).cell 3;simp only[List.getElem?_toArray,List.getElem?_cons_zero,List.getElem?_cons_succ] at d3;clear hg2 hr2 k2 HOF;go_wp2_with fail;have HNS:Hid (¬abz w2 m):=HM2.out.nosolid;go_loopw[31] (fun z wr=>∃ j:Nat,j≤J∧z=.int .i64 (j:Int)∧KM Tryz.prog 3 wr m (cnt+j) (HL j)∧(∀ a,a<j→pubB (aaL sec a)=(stAt p.step (k+a)).pub)∧Step (fun g=>g=m) w2 wr) (fun z _=>(J - (intOf z).toNat))
 case atStart=>exact ⟨0,Nat.zero_le _,rfl,HM2.out.congr fun z=>HS0.out z,fun a h=>by omega,Step.refl _ _⟩
 case round=>
  obtain ⟨j,hj,rfl,hkm,hpre,hstp⟩:=hrel;have HKM:=Lib.hid hkm;have HPR:=Lib.hid hpre;have HSTP:=Lib.hid hstp;have HCS:Hid (Cs w2 wr):=hstp.cs fun g e=>by subst e;exact HNS.out
  clear hkm hpre hstp d3;by_cases hlt:j<J
  ·obtain ⟨b1,o1,y1,q,e1,_,c0,c1,rq⟩:=arM.sp (i:=k+j) (arM.cs (arM.kp HWS.out KW2.out) HCS.out) (by rw[HLW.out];have:=HMK.out;omega)
   rw[HLW.out] at e1;simp only[Value.slice.injEq,Option.some.injEq,Addr.mk.injEq,and_true] at e1;obtain ⟨⟨rfl,rfl⟩,_,rfl⟩:=e1;rw[HSP.out (k+j) (by have:=HMK.out;omega)] at c0 rq;dsimp only at c0 rq
   obtain ⟨x1,x2⟩:=HXB.out j hlt;rw[← x1] at c0 x2;rw[show os+(k+j)*2=os+k*2+j*2 by omega] at c0 c1;obtain ⟨b2,o2,y2,ve,e2,_,c2,rv⟩:=arM.bs (i:=j) (arM.cs HG2.out HCS.out) (by rw[HEL.out];exact hlt);rw[HEL.out] at e2;simp only[Value.slice.injEq,Option.some.injEq,Addr.mk.injEq,and_true] at e2;obtain ⟨⟨rfl,rfl⟩,_,rfl⟩:=e2;have hea:bsAt (acZ sec J) j=secS sec j:=HEA.out j hlt;rw[hea] at rv;obtain ⟨b3,o3,y3,pv,qv,e3,_,c3,_,rp,_⟩:=TL11.node (i:=k+j) (arM.cs (arM.kp HST.out KW2.out) HCS.out) (by rw[HLP.out];have:=HMK.out;omega);rw[HLP.out] at e3;simp only[Value.slice.injEq,Option.some.injEq,Addr.mk.injEq,and_true] at e3;obtain ⟨⟨rfl,rfl⟩,_,rfl⟩:=e3;have HSUJ:=Lib.hid (HSU.out j hlt);have HPRE:Hid (pubB (aaL sec j)=(stAt p.step (k+j)).pub→∀ a,a<j+1→pubB (aaL sec a)=(stAt p.step (k+a)).pub):=fun h a ha=>by
    rcases Nat.lt_or_eq_of_le (Nat.lt_succ_iff.1 ha) with h3 | h3
    ·exact HPR.out a h3
    ·rw[h3];exact h
   have HNO:Hid (¬pubB (aaL sec j)=(stAt p.step (k+j)).pub→¬HP):=fun h hp=>h (HHV.out.1 hp j hlt)
   obtain ⟨X,hX⟩:∃ X,XS.getD j 0=X:=⟨_,rfl⟩;rw[hX] at c0 x2 HSUJ;obtain ⟨PUB,hPUB⟩:∃ P,(stAt p.step (k+j)).pub=P:=⟨_,rfl⟩;rw[hPUB] at rp HPRE HNO;obtain ⟨aq,nq,cq,rfl⟩:=rq.sl;obtain ⟨a9,n9,c9,rfl⟩:=aac rv;obtain ⟨ap7,np7,cp7,rfl⟩:=aac rp;obtain ⟨CV,hCV⟩:∃ C,(whoN t i K).getD (k+j) []=C:=⟨_,rfl⟩;rw[hCV] at rq;have i1:IntKind.i64.wrap ((j:Int)+1)=(j:Int)+1:=IntWalk.i64_in _ (by omega);have i4:IntKind.i64.wrap ((k:Int)+(j:Int))=(k:Int)+(j:Int):=IntWalk.i64_in _ (by have:=HMK.out;omega);have i6:¬(k:Int)+(j:Int)<0:=by omega
   have i7:((k:Int)+(j:Int)).toNat=k+j:=by omega
   have i8:(0:Int)≤(k:Int)+(j:Int):=by omega
   have i3:(j:Int)<(J:Int):=by omega
   have i5:(k:Int)+(j:Int)<(M:Int):=by have:=HMK.out;omega
   have hkey:Go.keyOf Tryz.prog 3 (.int .i64 (X:Int))=some (.int .i64 (X:Int)):=keyOf_int_mk Tryz.underlying3 (WalkArith.wf_i64 (by omega));have hkey2:=hkey;have hcn:cnt+j<maxLen:=by unfold maxLen;omega
   obtain ⟨WQ,hWQ⟩:∃ x,wr.alloc (.cells #[.int .i64 (X:Int),.slice aq nq cq] 99)=x:=⟨_,rfl⟩;have KQ:Hid (Kp wr WQ):=by unfold Hid;rw[← hWQ];exact (Kp.refl _).alloc _
   have hbq:Bx WQ wr.heap.size 99 #[.int .i64 (X:Int),.slice aq nq cq]:=by rw[← hWQ];exact Bx.new wr _ _
   have HBQ:=Lib.hid hbq;have CQ:Hid (Cs wr WQ):=KQ.out.cs;have CD:Hid (Cs WQ WQ.drew):=(Kp.refl WQ).drew.cs;have HS5:Hid (∀ W,Cs WQ W→W.cell? ⟨wr.heap.size,0,none⟩=some (.int .i64 (X:Int))∧W.cell? ⟨wr.heap.size,1,none⟩=some (.slice aq nq cq)∧W.cell? ⟨ge,oe+j,none⟩=some (.slice a9 n9 c9)):=fun W hW=>
    ⟨(HBQ.out.cs hW).cell 0,(HBQ.out.cs hW).cell 1,(CQ.out.trans hW).cell c2⟩
   have arJ:=Lib.hid (HS5.out _ CD.out);have hbp:=HBP.out.kp K2.out;have HCP:Hid (∀ W,Cs WQ W→W.cell? ⟨w.heap.size+1,1,none⟩=some (.slice (some ⟨gp,op,none⟩) M c6)∧W.cell? ⟨gp,op+(k+j)*2,none⟩=some (.slice ap7 np7 cp7)):=fun W hW=>
    ⟨((hbp.cs HCS.out).cs (CQ.out.trans hW)).cell 1,(CQ.out.trans hW).cell c3⟩
   have HRQ:=Lib.hid (fun W (hW:Cs WQ W)=>rq.cs (CQ.out.trans hW));have HRV:=Lib.hid (fun W (hW:Cs WQ W)=>rv.cs (CQ.out.trans hW));have HRP:=Lib.hid (fun W (hW:Cs WQ W)=>rp.cs (CQ.out.trans hW));have HMQ:=Lib.hid (HKM.out.kp KQ.out);have STQ:Hid (Step (fun g=>g=m) w2 WQ):=HSTP.out.next (Step.of_kp KQ.out);clear hbq hbp hX hPUB hCV hea x1 rq rv rp HSU HSP HXB HHV HPB HSD HEA HWS HST HPR c2 c3 HKM;by_cases heq:pubB (aaL sec j)=PUB
   ·have HBJ:=Lib.hid (fun W (arO v:Value) (hu:Rd W arO (pubB (aaL sec j))) (hv:Rd W v PUB)=>HBE.out W arO v _ _ hu hv)
    rw[decide_eq_true heq] at HBJ;clear HBE;go_wp2_with fail;try rw[hWQ]
    go_region_held3 (fun W=>W.cell? ⟨wr.heap.size,0,none⟩=some (.int .i64 (X:Int))∧W.cell? ⟨wr.heap.size,1,none⟩=some (.slice aq nq cq)∧W.cell? ⟨ge,oe+j,none⟩=some (.slice a9 n9 c9))
     (first | with_reducible exact arJ.out | with_reducible exact S5.out | with_reducible exact S6.out)
     (first
      | (go_at_call 59;refine (HSO.out _ (X:Int) _ _ _ j (HRQ.out _ CD.out) (HRV.out _ CD.out)).mono ?_;rintro _ w5 ⟨⟨v5,rfl,r5,nw5⟩,k5⟩;obtain ⟨a5,n5,c5,rfl⟩:=aac r5;have C5:Hid (Cs WQ w5):=CD.out.trans k5.cs;have S5:=Lib.hid (HS5.out _ C5.out);have HM5:=Lib.hid (HMQ.out.kp ((Kp.refl WQ).drew.trans k5));have SD5:Hid (SdIn w5 (.agg #[.int .i64 (X:Int),.slice a5 n5 c5]) ⟨(X:Int),aaL sec j⟩):=⟨_,rfl,r5⟩;have ST5:Hid (Step (fun g=>g=m) w2 w5):=STQ.out.next (Step.of_kp ((Kp.refl WQ).drew.trans k5));obtain ⟨w6,hrun6,hk6,hg6⟩:=aie (e:=90) 103 abl Tryz.underlying103 HM5.out hcn ⟨(X:Int),aaL sec j⟩ _ hkey SD5.out;dsimp only at hrun6;have HK6:=Lib.hid hk6;have C6:Hid (Cs WQ w6):=C5.out.trans (Cs.grown hg6 HM5.out.nosolid);have S6:=Lib.hid (HS5.out _ C6.out);have G6:Hid (Step (fun g=>g=m) w2 w6):=ST5.out.then hg6 (fun g hg=>by cases hg;exact .inr rfl)))
    have HK7:Hid (KM Tryz.prog 3 w6 m (cnt+(j+1)) (HL (j+1))):=HK6.out.congr fun y=>HSUJ.out y
    have hin7:HL (j+1) ⟨(X:Int),aaL sec j⟩:=(HSUJ.out _).2 (.inl rfl);have zs:=ab5 w6.drew;have HKD:=Lib.hid (HK7.out.kp (Kp.refl w6).drew);have hfd:=adB (X:Int);obtain ⟨qd,hrun7,hqd⟩:=afv (e:=90) 103 abl Tryz.underlying103 zs HKD.out ⟨(X:Int),aaL sec j⟩ hin7 hkey2;obtain ⟨aqd,nqd,cqd,rfl⟩:=aac hqd;dsimp only [sdV] at hrun7
    obtain ⟨g0,_,_⟩:=S6.out;have HS7:Hid (∀ W,Cs w6 W→W.cell? ⟨wr.heap.size,0,none⟩=some (.int .i64 (X:Int))∧W.cell? ⟨w.heap.size+1,1,none⟩=some (.slice (some ⟨gp,op,none⟩) M c6)∧W.cell? ⟨gp,op+(k+j)*2,none⟩=some (.slice ap7 np7 cp7)):=fun W hW=>⟨hW.cell S6.out.1,HCP.out _ (C6.out.trans hW)⟩
    have C7:Hid (Cs w6 w6.drew):=(Kp.refl w6).drew.cs;have S7:=Lib.hid (HS7.out _ C7.out);clear arJ S5 S6 HM5 SD5 ST5 HSO hkey g0 HK6 hrun6;go_wp2_with fail;go_region_held3 (fun W=>W.cell? ⟨wr.heap.size,0,none⟩=some (.int .i64 (X:Int))∧W.cell? ⟨w.heap.size+1,1,none⟩=some (.slice (some ⟨gp,op,none⟩) M c6)∧W.cell? ⟨gp,op+(k+j)*2,none⟩=some (.slice ap7 np7 cp7))
     (first | with_reducible exact S7.out | with_reducible exact S8.out | with_reducible exact S9.out)
     (first
      | (go_at_call 52;refine (HBJ.out _ _ _ R8.out (HRP.out _ (C6.out.trans C8.out))).mono ?_;rintro _ w9 ⟨rfl,k9⟩;have C9:=Lib.hid (C8.out.trans k9.cs);have S9:=Lib.hid (HS7.out _ C9.out);have K9:=Lib.hid (K8.out.trans k9))
      | (go_at_call 55;refine (HPU.out _ _ j hqd).mono ?_;rintro _ w8 ⟨⟨v8,rfl,r8,nw8⟩,k8⟩;obtain ⟨a8,n8,c8,rfl⟩:=aac r8;have R8:=Lib.hid r8;have K8:Hid (Kp w6 w8):=(Kp.refl w6).drew.trans k8;have C8:=Lib.hid (K8.out.cs);have S8:=Lib.hid (HS7.out _ C8.out)))
    have KF:=Lib.hid (HK7.out.kp K9.out);have GF:Hid (Step (fun g=>g=m) w w9):=(Step.of_kp KW2.out).next (G6.out.next (Step.of_kp K9.out));have GF2:Hid (Step (fun g=>g=m) w2 w9):=G6.out.next (Step.of_kp K9.out);clear S7 S8 S9 HKD zs HBJ HPU R8 hrun7 hqd;go_wp2_with fail;go_roundw
    case rel=>exact ⟨j+1,by omega,by first | rfl | (rw[i1];rfl),KF.out,HPRE.out heq,GF2.out⟩
    case measure=>simp[intOf];omega
   ·have HBJ:=Lib.hid (fun W (arO v:Value) (hu:Rd W arO (pubB (aaL sec j))) (hv:Rd W v PUB)=>HBE.out W arO v _ _ hu hv)
    rw[decide_eq_false heq] at HBJ;clear HBE;go_wp2_with fail;try rw[hWQ]
    go_region_held3 (fun W=>W.cell? ⟨wr.heap.size,0,none⟩=some (.int .i64 (X:Int))∧W.cell? ⟨wr.heap.size,1,none⟩=some (.slice aq nq cq)∧W.cell? ⟨ge,oe+j,none⟩=some (.slice a9 n9 c9))
     (first | with_reducible exact arJ.out | with_reducible exact S5.out | with_reducible exact S6.out)
     (first
      | (go_at_call 59;refine (HSO.out _ (X:Int) _ _ _ j (HRQ.out _ CD.out) (HRV.out _ CD.out)).mono ?_;rintro _ w5 ⟨⟨v5,rfl,r5,nw5⟩,k5⟩;obtain ⟨a5,n5,c5,rfl⟩:=aac r5;have C5:Hid (Cs WQ w5):=CD.out.trans k5.cs;have S5:=Lib.hid (HS5.out _ C5.out);have HM5:=Lib.hid (HMQ.out.kp ((Kp.refl WQ).drew.trans k5));have SD5:Hid (SdIn w5 (.agg #[.int .i64 (X:Int),.slice a5 n5 c5]) ⟨(X:Int),aaL sec j⟩):=⟨_,rfl,r5⟩;have ST5:Hid (Step (fun g=>g=m) w2 w5):=STQ.out.next (Step.of_kp ((Kp.refl WQ).drew.trans k5));obtain ⟨w6,hrun6,hk6,hg6⟩:=aie (e:=90) 103 abl Tryz.underlying103 HM5.out hcn ⟨(X:Int),aaL sec j⟩ _ hkey SD5.out;dsimp only at hrun6;have HK6:=Lib.hid hk6;have C6:Hid (Cs WQ w6):=C5.out.trans (Cs.grown hg6 HM5.out.nosolid);have S6:=Lib.hid (HS5.out _ C6.out);have G6:Hid (Step (fun g=>g=m) w2 w6):=ST5.out.then hg6 (fun g hg=>by cases hg;exact .inr rfl)))
    have HK7:Hid (KM Tryz.prog 3 w6 m (cnt+(j+1)) (HL (j+1))):=HK6.out.congr fun y=>HSUJ.out y
    have hin7:HL (j+1) ⟨(X:Int),aaL sec j⟩:=(HSUJ.out _).2 (.inl rfl);have zs:=ab5 w6.drew;have HKD:=Lib.hid (HK7.out.kp (Kp.refl w6).drew);have hfd:=adB (X:Int);obtain ⟨qd,hrun7,hqd⟩:=afv (e:=90) 103 abl Tryz.underlying103 zs HKD.out ⟨(X:Int),aaL sec j⟩ hin7 hkey2;obtain ⟨aqd,nqd,cqd,rfl⟩:=aac hqd;dsimp only [sdV] at hrun7
    obtain ⟨g0,_,_⟩:=S6.out;have HS7:Hid (∀ W,Cs w6 W→W.cell? ⟨wr.heap.size,0,none⟩=some (.int .i64 (X:Int))∧W.cell? ⟨w.heap.size+1,1,none⟩=some (.slice (some ⟨gp,op,none⟩) M c6)∧W.cell? ⟨gp,op+(k+j)*2,none⟩=some (.slice ap7 np7 cp7)):=fun W hW=>⟨hW.cell S6.out.1,HCP.out _ (C6.out.trans hW)⟩
    have C7:Hid (Cs w6 w6.drew):=(Kp.refl w6).drew.cs;have S7:=Lib.hid (HS7.out _ C7.out);clear arJ S5 S6 HM5 SD5 ST5 HSO hkey g0 HK6 hrun6;go_wp2_with fail;go_region_held3 (fun W=>W.cell? ⟨wr.heap.size,0,none⟩=some (.int .i64 (X:Int))∧W.cell? ⟨w.heap.size+1,1,none⟩=some (.slice (some ⟨gp,op,none⟩) M c6)∧W.cell? ⟨gp,op+(k+j)*2,none⟩=some (.slice ap7 np7 cp7))
     (first | with_reducible exact S7.out | with_reducible exact S8.out | with_reducible exact S9.out)
     (first
      | (go_at_call 52;refine (HBJ.out _ _ _ R8.out (HRP.out _ (C6.out.trans C8.out))).mono ?_;rintro _ w9 ⟨rfl,k9⟩;have C9:=Lib.hid (C8.out.trans k9.cs);have S9:=Lib.hid (HS7.out _ C9.out);have K9:=Lib.hid (K8.out.trans k9))
      | (go_at_call 55;refine (HPU.out _ _ j hqd).mono ?_;rintro _ w8 ⟨⟨v8,rfl,r8,nw8⟩,k8⟩;obtain ⟨a8,n8,c8,rfl⟩:=aac r8;have R8:=Lib.hid r8;have K8:Hid (Kp w6 w8):=(Kp.refl w6).drew.trans k8;have C8:=Lib.hid (K8.out.cs);have S8:=Lib.hid (HS7.out _ C8.out)))
    have KF:=Lib.hid (HK7.out.kp K9.out);have GF:Hid (Step (fun g=>g=m) w w9):=(Step.of_kp KW2.out).next (G6.out.next (Step.of_kp K9.out));have GF2:Hid (Step (fun g=>g=m) w2 w9):=G6.out.next (Step.of_kp K9.out);clear S7 S8 S9 HKD zs HBJ HPU R8 hrun7 hqd;go_wp2_with fail;go_ret2;exact ⟨⟨_,_,rfl,.inr ⟨HNO.out heq,rfl,aaP _⟩⟩,GF.out⟩
  ·obtain rfl:j=J:=by omega
   have h1:¬(j:Int)<(j:Int):=by omega
   have HFIN:Hid (HP∧Rd wr (.slice ar nr cr) (secS sec j)∧KM Tryz.prog 3 wr m (cnt+j) (HL j)∧Step (fun g=>g=m) w wr):=⟨HHV.out.2 HPR.out,HR2.out.cs HCS.out,HKM.out,(Step.of_kp KW2.out).next HSTP.out⟩;clear HSU HSP HXB HHV HPB HSD HEA HWS HST HPR HKM;go_wp2_with fail;go_ret2;exact ⟨⟨_,_,rfl,.inl ⟨HFIN.out.1,rfl,HFIN.out.2.1,HFIN.out.2.2.1⟩⟩,HFIN.out.2.2.2⟩
end Go.Proofs.YthmhklmkgkfcpaaGreatDoor
