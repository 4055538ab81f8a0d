import Derived.Test.YtbhkdlpdolioaaaP36
import Derived.Test.YtbhkdlpdolioaaaP38
import Derived.Test.YtbhkdlpdolioaaaP39
set_option linter.unusedVariables false
set_option linter.unusedSimpArgs false
set_option maxHeartbeats 8000000
set_option maxRecDepth 100000
namespace Go.Proofs.Ytbhkdlpdolioaaa
open Go.RowKit
theorem aa7:(Try.prog.info? 36).map (·.size)=some 5:=by kernel_rfl
def nil5:Array Value:=#[.slice none 0 0,.slice none 0 0,.slice none 0 0,.slice none 0 0,.slice none 0 0]
theorem acL.ev {w:World}{b:Nat}{K:List UInt8}{cs:Array Value}(h:acL w b K 5 cs):∃ v0 v1 v2 v3 v4,Bx w b 36 #[v0,v1,v2,v3,v4]∧EV w v0 v1 v2 v3 v4 (aee K)∧(aaC (b+1) v0∧aaC (b+1) v1∧aaC (b+1) v2∧aaC (b+1) v3∧aaC (b+1) v4):=by
 obtain ⟨h1,h2,h3⟩:=h;obtain ⟨v0,e0,r0,n0⟩:=h3 0 (by omega);obtain ⟨v1,e1,r1,n1⟩:=h3 1 (by omega);obtain ⟨v2,e2,r2,n2⟩:=h3 2 (by omega);obtain ⟨v3,e3,r3,n3⟩:=h3 3 (by omega);obtain ⟨v4,e4,r4,n4⟩:=h3 4 (by omega);have e:cs=#[v0,v1,v2,v3,v4]:=by
  refine Array.ext_getElem? fun k=>?_
  by_cases hk:k<5
  ·rcases lt5 hk with rfl | rfl | rfl | rfl | rfl
   ·exact e0
   ·exact e1
   ·exact e2
   ·exact e3
   ·exact e4
  ·rw[Array.getElem?_eq_none (by omega),Array.getElem?_eq_none (by simp;omega)]
 exact ⟨v0,v1,v2,v3,v4,e▸h1,⟨r0,r1,r2,r3,r4⟩,n0,n1,n2,n3,n4⟩
theorem ep_no {a b c:List UInt8}(h:¬(a.length=32∧b.length=32)):epR a b c=⟨[],[],[],[],[]⟩:=by simp[epR,(aeM h abd c).1]
theorem aeR {a b:List UInt8}(c:List UInt8)(h:a.length=32∧b.length=32):epR a b c=aee (oneS (macB a b) aaG c):=by simp[epR,(abN h.1 h.2 abd c).1]
theorem aca {a1 a2 a3 a4 a5:Option Addr}{n1 n2 n3 n4 n5 c1 c2 c3 c4 c5:Nat}:∀ z∈(#[.slice a1 n1 c1,.slice a2 n2 c2,.slice a3 n3 c3,.slice a4 n4 c4,.slice a5 n5 c5]:Array Value).toList,z.oneCell'=true:=by
 intro z hz;simp only[List.mem_cons,List.not_mem_nil,or_false] at hz;rcases hz with rfl | rfl | rfl | rfl | rfl <;> rfl
theorem Rd.stepAway {w w':World}{v:Value}{l:List UInt8}{b:Nat}(h:Rd w v l)(hs:Step (fun k=>k=b) w w')(hn:aaC (b+1) v):Rd w' v l:=
 h.step hs fun c o n m e e2=>by have:=hn c (by rw[e];rfl);omega
theorem ads (va vb vc:Value)(a b c:List UInt8)(w:World)(ha:Rd w va a)(hb:Rd w vb b)(hc:Rd w vc c)(hcl:c.length≤1400):
  Calls Try.prog 16 #[va,vb,vc] w fun e w'=>(∃ v0 v1 v2 v3 v4,e=.returned (.tuple #[.agg #[v0,v1,v2,v3,v4],.int .i64 (agE a b)])∧EV w' v0 v1 v2 v3 v4 (epR a b c))∧Kp w w':=by
 have HG:=Lib.hid (fun W (k:Kp w W)=>acK va vb vc a b c aaG W (ha.kp k) (hb.kp k) (hc.kp k) (by decide) hcl);obtain ⟨a1,n1,c1,rfl⟩:=ha.sl;obtain ⟨a2,n2,c2,rfl⟩:=hb.sl;obtain ⟨a3,n3,c3,rfl⟩:=hc.sl;have KA:=Lib.hid ((Kp.refl w).alloc (.cells nil5 36));have B0:=Lib.hid (Bx.new w 36 nil5);by_cases h:a.length=32∧b.length=32
 ·rw[aeR c h]
  rw[(abN h.1 h.2 aaG c).1,(abN h.1 h.2 aaG c).2] at HG;rw[(abN h.1 h.2 aaG c).1];have hkl:=aao (macB a b) aaG c;generalize oneS (macB a b) aaG c=K at *;unfold nil5 aaG at *;clear ha hb hc h;go_enter Try.func16,Try.ntmps16;go_wp2_with fail;refine (HG.out _ KA.out).mono ?_;rintro _ w1 ⟨⟨v1,rfl,o1⟩,k1⟩;obtain ⟨a4,n4,c4,rfl⟩:=o1.rd.sl;have B1:=Lib.hid (B0.out.kp k1);have K1:=Lib.hid (KA.out.trans k1);have HSZ:Hid (w.heap.size<w1.heap.size):=(Array.getElem?_eq_some_iff.1 B1.out).1;go_wp2_with fail;refine (abf w1.heap.size _).mono ?_;rintro _ w2 ⟨g2,rfl,p2,hg2,k2⟩;rw[World.size_alloc] at hg2;have B2:=(Bx.new w1 36 nil5).kp k2;have K2:=((Kp.refl w1).alloc (.cells nil5 36)).trans k2;unfold nil5 at *;have hs2:=k2.size;rw[World.size_alloc] at hs2;go_wp2_with fail;refine (afm w1.heap.size g2 w2.heap.size _ K _ (p2.kp ((Kp.refl _).alloc _)) (Bx.new w2 _ labs) ((o1.rd.kp K2).kp ((Kp.refl _).alloc _)) (by omega) ⟨_,B2.kp ((Kp.refl _).alloc _),rfl⟩ ⟨by omega,by omega⟩ (fun x o n m e=>by cases e;have:=World.ownsRow.lt o1 x rfl;omega)).mono ?_;rintro _ w3 ⟨rfl,⟨cs,hf⟩,st⟩;obtain ⟨v0,v1,v2,v3,v4,b3,ev,n0',n1',n2',n3',n4'⟩:=hf.ev;have hl2:w1.heap.size<(w2.alloc (.cells labs 9)).heap.size:=by rw[World.size_alloc];omega
  have BR:Hid (Bx w3 w.heap.size 36 nil5):=by
   have h:=(B1.out.kp K2).kp ((Kp.refl _).alloc (.cells labs 9));exact (st.block _ (Array.getElem?_eq_some_iff.1 h).1 (by have:=HSZ.out;omega)).trans h
  have K3:Hid (Kp w w3):=Below.trans ((K1.out.trans K2).alloc (.cells labs 9)) (st.below ((K1.out.trans K2).alloc (.cells labs 9)).size fun k hk=>by have:=HSZ.out;omega);have hlt:=HSZ.out;have EVN:Hid (EV w3 v0 v1 v2 v3 v4 (aee K)):=ev;have HNW:Hid (aaC (w1.heap.size+1) v0∧aaC (w1.heap.size+1) v1∧aaC (w1.heap.size+1) v2∧aaC (w1.heap.size+1) v3∧aaC (w1.heap.size+1) v4):=⟨n0',n1',n2',n3',n4'⟩;obtain ⟨x0,y0,z0,rfl⟩:=ev.1.sl;obtain ⟨x1,y1,z1,rfl⟩:=ev.2.1.sl;obtain ⟨x2,y2,z2,rfl⟩:=ev.2.2.1.sl;obtain ⟨x3,y3,z3,rfl⟩:=ev.2.2.2.1.sl;obtain ⟨x4,y4,z4,rfl⟩:=ev.2.2.2.2.sl;have f0:=b3.cell 0;have f1:=b3.cell 1;have f2:=b3.cell 2;have f3:=b3.cell 3;have f4:=b3.cell 4;simp only[List.getElem?_toArray,List.getElem?_cons_zero,List.getElem?_cons_succ] at f0 f1 f2 f3 f4;unfold nil5 at BR;clear ev b3 n0' n1' n2' n3' n4' hf st B2 K2 k1 k2 p2 hs2 hl2 o1 B1 B0 KA K1;go_wp2_with (refine aau rfl rfl 36 (.tmp 6) (.tmp 26) rfl w.heap.size 36 _ #[.slice x0 y0 z0,.slice x1 y1 z1,.slice x2 y2 z2,.slice x3 y3 z3,.slice x4 y4 z4] rfl rfl BR.out rfl aca aa7 ?_;intro w4 b4 g4 hk4)
  refine bodyPost_ret (abk rfl _ _ w.heap.size _ _ (0,0) _ _ rfl b4 Try.underlying36 rfl aa7 rfl) rfl ?_;obtain ⟨e0,e1,e2,e3,e4⟩:=EVN.out;obtain ⟨m0,m1,m2,m3,m4⟩:=HNW.out;have st4:Step (fun k=>k=w.heap.size) w3 w4:=⟨g4.os,g4.tape,g4.output,g4.size,fun q hq hn=>g4.block q hq fun e=>hn (by cases e;rfl)⟩;exact ⟨⟨_,_,_,_,_,rfl,e0.stepAway st4 (m0.mono (by omega)),e1.stepAway st4 (m1.mono (by omega)),e2.stepAway st4 (m2.mono (by omega)),e3.stepAway st4 (m3.mono (by omega)),e4.stepAway st4 (m4.mono (by omega))⟩,hk4 w K3.out (Nat.le_refl _)⟩
 ·rw[ep_no h]
  rw[(aeM h aaG c).1,(aeM h aaG c).2] at HG;rw[(aeM h aaG c).1];unfold nil5 aaG at *;clear ha hb hc h;go_enter Try.func16,Try.ntmps16;go_wp2_with fail;refine (HG.out _ KA.out).mono ?_;rintro _ w1 ⟨⟨v1,rfl,o1⟩,k1⟩;have B1:=Lib.hid (B0.out.kp k1);have K1:=Lib.hid (KA.out.trans k1);go_wp2_with (refine aau rfl rfl 36 (.tmp 6) (.tmp 20) rfl w.heap.size 36 _ #[.slice none 0 0,.slice none 0 0,.slice none 0 0,.slice none 0 0,.slice none 0 0] rfl rfl B1.out rfl aca aa7 ?_;intro w4 b4 g4 hk4)
  refine bodyPost_ret (abk rfl _ _ w.heap.size _ _ (0,0) _ _ rfl b4 Try.underlying36 rfl aa7 rfl) rfl ?_;exact ⟨⟨_,_,_,_,_,rfl,aaz _,aaz _,aaz _,aaz _,aaz _⟩,hk4 w K1.out (Nat.le_refl _)⟩
theorem adZ {E:Eps}{l:List UInt8}(h:E.ok)(h':l.length=32):prE E l=0∧prR E l=macB E.c l:=by simp[prE,prR,h,h']
theorem afn {E:Eps}{l:List UInt8}(h:¬(E.ok∧l.length=32)):prE E l=1∧prR E l=[]:=by simp[prE,prR,h]
theorem aeS (v0 v1 v2 v3 v4 vl:Value)(E:Eps)(l:List UInt8)(w:World)(h:EV w v0 v1 v2 v3 v4 E)(hl:Rd w vl l):
  Calls Try.prog 25 #[.agg #[v0,v1,v2,v3,v4],vl] w fun e w'=>(∃ v,e=.returned (.tuple #[v,.int .i64 (prE E l)])∧Ow 5 w' w.heap.size v (prR E l))∧Kp w w':=by
 have HRT:=Lib.hid (fun W (k:Kp w W)=>abv v0 v1 v2 v3 v4 E W (h.kp k));have HLR:=Lib.hid hl;have HC:=Lib.hid h.2.2.2.1;have HW:=Lib.hid (fun W v h=>aaO v [l] W h);rw[aft] at HW;have K1:=Lib.hid ((Kp.refl w).alloc (.cells #[v0,v1,v2,v3,v4] 36));have HB:=Lib.hid (Bx.new w 36 #[v0,v1,v2,v3,v4]);obtain ⟨x0,y0,z0,rfl⟩:=h.1.sl;obtain ⟨x1,y1,z1,rfl⟩:=h.2.1.sl;obtain ⟨x2,y2,z2,rfl⟩:=h.2.2.1.sl;obtain ⟨x3,y3,z3,rfl⟩:=h.2.2.2.1.sl;obtain ⟨x4,y4,z4,rfl⟩:=h.2.2.2.2.sl;obtain ⟨al,nl,cl,rfl⟩:=hl.sl;clear h hl;by_cases hok:E.ok
 ·rw[decide_eq_true hok] at HRT
  by_cases h3:l.length=32
  ·rw[(adZ hok h3).1,(adZ hok h3).2]
   rw[decide_eq_true h3] at HW;have HX:=Lib.hid (fun W (k:Kp w W)=>aeK (.slice x3 y3 z3) (.slice al nl cl) E.c l W (HC.out.kp k) (HLR.out.kp k) (by rw[hok.2.2.2.1];omega) (by omega));clear hok h3;go_enter Try.func25,Try.ntmps25;go_wp2_with fail;refine (HRT.out _ K1.out).mono ?_;rintro _ w2 ⟨rfl,k2⟩;have K2:=K1.out.trans k2;go_wp2_with fail;refine (HW.out _ _ (RL.lits1 (HLR.out.kp K2))).mono ?_;rintro _ w3 ⟨rfl,hw3⟩;have k3:Kp w2 w3:=by rw[hw3];exact (Kp.refl _).alloc _
   have e3:=((HB.out.kp k2).kp k3).cell 3;simp only[List.getElem?_toArray,List.getElem?_cons_zero,List.getElem?_cons_succ] at e3;have K3:=K2.trans k3;clear hw3;go_wp2_with fail;refine (HX.out _ K3).mono ?_;rintro _ w4 ⟨⟨a4,c4,rfl,o4⟩,k4⟩;go_wp2_with fail;go_ret2;exact ⟨⟨_,rfl,o4.mono K3.size⟩,K3.trans k4⟩
  ·rw[(afn (E:=E) (l:=l) fun h=>h3 h.2).1,(afn (E:=E) (l:=l) fun h=>h3 h.2).2]
   rw[decide_eq_false h3] at HW;clear hok h3;go_enter Try.func25,Try.ntmps25;go_wp2_with fail;refine (HRT.out _ K1.out).mono ?_;rintro _ w2 ⟨rfl,k2⟩;have K2:=K1.out.trans k2;go_wp2_with fail;refine (HW.out _ _ (RL.lits1 (HLR.out.kp K2))).mono ?_;rintro _ _ ⟨rfl,rfl⟩;go_wp2_with fail;go_ret2;exact ⟨⟨_,rfl,Ow.nil _ _ _⟩,K2.alloc _⟩
 ·rw[(afn (E:=E) (l:=l) fun h=>hok h.1).1,(afn (E:=E) (l:=l) fun h=>hok h.1).2]
  rw[decide_eq_false hok] at HRT;clear hok;go_enter Try.func25,Try.ntmps25;go_wp2_with fail;refine (HRT.out _ K1.out).mono ?_;rintro _ w2 ⟨rfl,k2⟩;go_wp2_with fail;go_ret2;exact ⟨⟨_,rfl,Ow.nil _ _ _⟩,K1.out.trans k2⟩
theorem aeT {E:Eps}(s:ByteArray)(c:List UInt8)(n:Int)(h:E.ok):exE E n=expE n∧exR E s c n=labR (oneS E.x s []) abq.data.toList (aam c) n:=by simp[exE,exR,h]
theorem af4 {E:Eps}(s:ByteArray)(c:List UInt8)(n:Int)(h:¬E.ok):exE E n=1∧exR E s c n=[]:=by simp[exE,exR,h]
theorem aej (v0 v1 v2 v3 v4 vc:Value)(E:Eps)(s:ByteArray)(c:List UInt8)(n:Int)(w:World)(h:EV w v0 v1 v2 v3 v4 E)(hc:Rd w vc c)(hs:s.size≤300)(hcl:c.length≤2000)(hn:-9223372036854775808≤n∧n≤9223372036854775807):
  Calls Try.prog 27 #[.agg #[v0,v1,v2,v3,v4],.string s,vc,.int .i64 n] w fun e w'=>(∃ v,e=.returned (.tuple #[v,.int .i64 (exE E n)])∧Ow 5 w' w.heap.size v (exR E s c n))∧Kp w w':=by
 have HRT:=Lib.hid (fun W (k:Kp w W)=>abv v0 v1 v2 v3 v4 E W (h.kp k));have HCR:=Lib.hid hc;have HX:=Lib.hid h.2.2.1;have K1:=Lib.hid ((Kp.refl w).alloc (.cells #[v0,v1,v2,v3,v4] 36));have HB:=Lib.hid (Bx.new w 36 #[v0,v1,v2,v3,v4]);obtain ⟨x0,y0,z0,rfl⟩:=h.1.sl;obtain ⟨x1,y1,z1,rfl⟩:=h.2.1.sl;obtain ⟨x2,y2,z2,rfl⟩:=h.2.2.1.sl;obtain ⟨x3,y3,z3,rfl⟩:=h.2.2.2.1.sl;obtain ⟨x4,y4,z4,rfl⟩:=h.2.2.2.2.sl;obtain ⟨al,nl,cl,rfl⟩:=hc.sl;clear h hc;by_cases hok:E.ok
 ·rw[decide_eq_true hok] at HRT
  rw[(aeT s c n hok).1,(aeT s c n hok).2];have HD:=Lib.hid (fun W (k:Kp w W)=>acJ (.slice x2 y2 z2) s E.x W (HX.out.kp k) hs (by rw[hok.2.2.1];omega));have HM:Hid (expL E.x (labI s.data.toList [] 32) 32=oneS E.x s []):=rfl;rw[HM.out] at HD;have HSM:=Lib.hid (fun W (k:Kp w W)=>acT (.slice al nl cl) c W (HCR.out.kp k) hcl);have hol:=aao E.x s [];have hdl:=aah c;have HL:=Lib.hid (fun W af9 v (k:Rd W af9 (oneS E.x s [])) (k':Rd W v (aam c))=>abM af9 abq v (oneS E.x s []) (aam c) n W k k' (by decide) (by omega) (by omega) hn);generalize oneS E.x s []=Y at *;generalize aam c=D at *;unfold abq at *;generalize expE n=EE at *;clear hok hol hdl;go_enter Try.func27,Try.ntmps27;go_wp2_with fail;refine (HRT.out _ K1.out).mono ?_;rintro _ w2 ⟨rfl,k2⟩;have K2:=K1.out.trans k2;have e3:=(HB.out.kp k2).cell 2;simp only[List.getElem?_toArray,List.getElem?_cons_zero,List.getElem?_cons_succ] at e3;go_wp2_with fail;refine (HD.out _ K2).mono ?_;rintro _ w3 ⟨⟨v3,rfl,o3⟩,k3⟩;obtain ⟨a3,n3,c3,rfl⟩:=o3.rd.sl;have K3:=K2.trans k3;go_wp2_with fail;refine (HSM.out _ K3).mono ?_;rintro _ w4 ⟨⟨v4,rfl,o4⟩,k4⟩;obtain ⟨a4,n4,c4,rfl⟩:=o4.rd.sl;go_wp2_with fail;refine (HL.out _ _ _ (o3.rd.kp k4) o4.rd).mono ?_;rintro _ w5 ⟨⟨v5,rfl,o5⟩,k5⟩;go_wp2_with fail;go_ret2;exact ⟨⟨_,rfl,o5.mono (K3.trans k4).size⟩,(K3.trans k4).trans k5⟩
 ·rw[(af4 s c n hok).1,(af4 s c n hok).2]
  rw[decide_eq_false hok] at HRT;clear hok;go_enter Try.func27,Try.ntmps27;go_wp2_with fail;refine (HRT.out _ K1.out).mono ?_;rintro _ w2 ⟨rfl,k2⟩;go_wp2_with fail;go_ret2;exact ⟨⟨_,rfl,Ow.nil _ _ _⟩,K1.out.trans k2⟩
end Go.Proofs.Ytbhkdlpdolioaaa
