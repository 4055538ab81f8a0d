import Derived.Test.YtbhkdlpdolioaaaP24
import Derived.Test.YtbhkdlpdolioaaaP35
set_option linter.unusedVariables false
set_option linter.unusedSimpArgs false
set_option maxHeartbeats 8000000
set_option maxRecDepth 100000
namespace Go.Proofs.Ytbhkdlpdolioaaa
open Go.RowKit
theorem RL.lits1 {w:World}{T:TypeId}{v1:Value}{l1:List UInt8}(h1:Rd w v1 l1):RL (w.alloc (.cells #[v1] T)) (.slice (some ⟨w.heap.size,0,none⟩) 1 1) [l1]:=
 RL.cons (us:=[]) (ls:=[]) (abr _ _ _) (h1.kp ((Kp.refl _).alloc _)) rfl (fun i hi=>by simp at hi)
theorem aft (a:List UInt8):abj [a]=decide (a.length=32):=by simp[abj]
theorem afu (a b:List UInt8):abj [a,b]=decide (a.length=32∧b.length=32):=by
 unfold abj
 refine decide_eq_decide.2 ⟨fun h=>⟨h 0 (by simp),h 1 (by simp)⟩,fun h i hi=>?_⟩
 match i,hi with
 | 0,_=>exact h.1
 | 1,_=>exact h.2
 | i+2,hi=>exact absurd hi (by simp)
theorem ab1 {l:List UInt8}(h:l.length≤100000):0<(rowB l).length∧(rowB l).length≤l.length+4:=by
 have h1:=adC (x:=l) (by omega);have h2:=aaZ l.length;have h3:=adp l.length;omega
theorem acK (va vb vc:Value)(a b c:List UInt8)(s:ByteArray)(w:World)(ha:Rd w va a)(hb:Rd w vb b)(hc:Rd w vc c)(hs:s.size≤300)(hcl:c.length≤1400):
  Calls Try.prog 42 #[va,vb,.string s,vc] w fun e w'=>(∃ v,e=.returned (.tuple #[v,.int .i64 (agE a b)])∧Ow 5 w' w.heap.size v (agR a b s c))∧Kp w w':=by
 have HA:=Lib.hid ha;have HB:=Lib.hid hb;have HC:=Lib.hid hc;obtain ⟨a1,n1,c1,rfl⟩:=ha.sl;obtain ⟨a2,n2,c2,rfl⟩:=hb.sl;obtain ⟨a3,n3,c3,rfl⟩:=hc.sl;have HW:=Lib.hid (fun W v h=>aaO v [a,b] W h);have KA:=Lib.hid ((Kp.refl w).alloc (.cells #[.slice a1 n1 c1,.slice a2 n2 c2] 22));have KS:=Lib.hid KA.out.size;rw[afu] at HW;by_cases h:a.length=32∧b.length=32
 ·have hy:=abN h.1 h.2 s c
  rw[hy.1,hy.2];rw[decide_eq_true h] at HW;have HM:Hid (labR (macB a b) s.data.toList c 32=oneS (macB a b) s c):=rfl;have HL:=Lib.hid (fun W v (k:Rd W v (macB a b)) (k':Rd W (.slice a3 n3 c3) c)=>abM v s (.slice a3 n3 c3) (macB a b) c 32 W k k' hs hcl (by rw[aaI];omega) (by omega));rw[show expE 32=0 from rfl] at HL;have HX:=Lib.hid (fun W (k:Kp w W)=>acp (.slice a1 n1 c1) (.slice a2 n2 c2) a b W (HA.out.kp k) (HB.out.kp k) (by omega) (by omega));clear ha hb hc hy h;go_enter Try.func42,Try.ntmps42;go_wp2_with fail;refine (HW.out _ _ (RL.lit2 HA.out HB.out)).mono ?_;rintro _ _ ⟨rfl,rfl⟩;go_wp2_with fail;refine (HX.out _ KA.out).mono ?_;rintro _ w1 ⟨⟨v1,rfl,o1⟩,k1⟩;have K1:=KA.out.trans k1;go_wp2_with fail;refine (HL.out _ _ o1.rd (HC.out.kp K1)).mono ?_;rintro _ w2 ⟨⟨v2,rfl,o2⟩,k2⟩;rw[HM.out] at o2;go_wp2_with fail;go_ret2;exact ⟨⟨_,rfl,o2.mono K1.size⟩,K1.trans k2⟩
 ·have hy:=aeM h s c
  rw[hy.1,hy.2];rw[decide_eq_false h] at HW;clear ha hb hc hy h;go_enter Try.func42,Try.ntmps42;go_wp2_with fail;refine (HW.out _ _ (RL.lit2 HA.out HB.out)).mono ?_;rintro _ _ ⟨rfl,rfl⟩;go_wp2_with fail;go_ret2;exact ⟨⟨_,rfl,Ow.nil _ _ _⟩,KA.out⟩
theorem aeh (va vb vc:Value)(a b c:List UInt8)(w:World)(ha:Rd w va a)(hb:Rd w vb b)(hc:Rd w vc c)(hcl:c.length≤1400):
  Calls Try.prog 14 #[va,vb,vc] w fun e w'=>(∃ v,e=.returned (.tuple #[v,.int .i64 (agE a b)])∧Ow 5 w' w.heap.size v (agR a b abd c))∧Kp w w':=by
 have HG:=Lib.hid (acK va vb vc a b c abd w ha hb hc (by decide) hcl);obtain ⟨a1,n1,c1,rfl⟩:=ha.sl;obtain ⟨a2,n2,c2,rfl⟩:=hb.sl;obtain ⟨a3,n3,c3,rfl⟩:=hc.sl;unfold abd at *;clear ha hb hc;go_enter Try.func14,Try.ntmps14;go_wp2_with fail;refine HG.out.mono ?_;rintro _ w1 ⟨⟨v1,rfl,o1⟩,k1⟩;go_wp2_with fail;go_ret2;exact ⟨⟨_,rfl,o1⟩,k1⟩
theorem aeN {k:Nat}(h:k≤1000):numE (k:Int) 2=0∧numB (k:Int) 2=be 2 k:=by
 have h1:(256:Int) ^ (2:Int).toNat=65536:=by decide
 have h2:=aa9 (n:=(k:Int)) (w:=2) ⟨by omega,by omega,by omega,by omega⟩;exact ⟨h2.1,by rw[h2.2];rfl⟩
theorem afv (ls:List (List UInt8))(W:World):Ow 5 (W.alloc (.cells (Array.replicate 32 (.int .u8 0)) 5)) W.heap.size (.slice (some ⟨W.heap.size,0,none⟩) 32 32) (shF ls 0):=
 Ow.lit W 5 W.heap.size 32 _ _ (Nat.le_refl _) (abZ ls 0) (by decide) (by simp[shF,Lib.byteCells])
theorem ab2 (v:Value)(ls:List (List UInt8))(w:World)(h:RL w v ls)(hn:ls.length≤1000)(hl:∀ k,k<ls.length→(ls.getD k []).length≤2000):
  Calls Try.prog 20 #[v] w fun e w'=>(∃ v,e=.returned v∧Ow 5 w' w.heap.size v (shF ls ls.length))∧Kp w w':=by
 obtain ⟨a,c,rfl,h1,h2⟩:=h.shape;unfold maxLen at h2;have q0:¬(65536:Int)<(ls.length:Int):=by omega
 have HS:Hid (∀ k,shF ls (k+1)=macB (shF ls k) (oneS (ls.getD k []) aax (be 2 k))):=fun _=>rfl
 have HSL:=Lib.hid (abZ ls);have HZ:=Lib.hid (afv ls);have HLL:=Lib.hid hl;clear hl;go_enter Try.func20,Try.ntmps20;go_wp2_with (at_make;refine aak (z:=.int .u8 0) (b:=1) Try.underlying22 Try.info5 rfl (by decide) rfl _ _ rfl 32 rfl rfl (by omega) ?_;intro w1 hw1;have o1:Hid (Ow 5 w1 w.heap.size (.slice (some ⟨w.heap.size,0,none⟩) 32 32) (shF ls 0)):=(by rw[hw1];exact HZ.out w);have k1:Hid (Kp w w1):=(by rw[hw1];exact (Kp.refl w).alloc _);clear hw1)
 go_loopw[3,16] (fun v i wr=>∃ k:Nat,k≤ls.length∧i=.int .i64 k∧Ow 5 wr w.heap.size v (shF ls k)∧Kp w wr) (fun _ i _=>ls.length - (intOf i).toNat)
 case atStart=>exact ⟨0,by omega,rfl,o1.out,k1.out⟩
 case round=>
  obtain ⟨k,hk,rfl,ho,hkp⟩:=hrel;by_cases hlt:k<ls.length
  ·obtain ⟨b,off,rfl,_,hcell⟩:=h.at k hlt
   obtain ⟨af9,hcu,hru⟩:=hcell k hlt;have hcu':=hkp.cell hcu;have HR:=Lib.hid (hru.kp hkp);obtain ⟨au,nu,cu,rfl⟩:=hru.sl;have HNUM:=Lib.hid (fun W=>abV (k:Int) 2 W (by omega));rw[(aeN (show k≤1000 by omega)).1,(aeN (show k≤1000 by omega)).2] at HNUM;have hlx:=HLL.out k hlt;have hsn:=HS.out k;have hsl:=HSL.out k;have hb2:(be 2 k).length=2:=aae _ _;have HO:=Lib.hid ho;obtain ⟨ao,no,co,rfl⟩:=ho.rd.sl;generalize shF ls k=Y at *;generalize ls.getD k []=X at *;generalize be 2 k=Z at *;have HM:Hid (labR X aax.data.toList Z 32=oneS X aax Z):=rfl;have HPL:=Lib.hid (aao X aax Z);have HSN:=Lib.hid hsn;have HL:=Lib.hid (fun W v (k:Rd W (.slice au nu cu) X) (k':Rd W v Z)=>abM (.slice au nu cu) aax v X Z 32 W k k' (by decide) (by omega) hlx (by omega));rw[show expE 32=0 from rfl,HM.out] at HL;have HX:=Lib.hid (fun W v (k:Rd W (.slice ao no co) Y) (k':Rd W v (oneS X aax Z))=>acp (.slice ao no co) v Y (oneS X aax Z) W k k' (by omega) (by rw[HPL.out];omega));rw[← hsn] at HX;unfold aax at *;clear hcell hru hcu ho hsn HM HS HSL HLL HZ o1 k1 h;go_wp2_with (first
    | (go_at_call 37;refine (HNUM.out _).mono ?_;rintro _ w2 ⟨v2,rfl,o2,k2⟩;obtain ⟨a2,n2,c2,rfl⟩:=o2.rd.sl)
    | (go_at_call 46;refine (HL.out _ _ (HR.out.kp k2) o2.rd).mono ?_;rintro _ w3 ⟨⟨v3,rfl,o3⟩,k3⟩;obtain ⟨a3,n3,c3,rfl⟩:=o3.rd.sl)
    | (go_at_call 47;refine (HX.out _ _ (HO.out.rd.kp (k2.trans k3)) o3.rd).mono ?_;rintro _ w4 ⟨⟨v4,rfl,o4⟩,k4⟩;obtain ⟨a4,n4,c4,rfl⟩:=o4.rd.sl;have k24:=hkp.trans (k2.trans k3);have o4':=o4.mono k24.size))
   go_roundw
   case rel=>exact ⟨k+1,by omega,by go_num,o4',k24.trans k4⟩
   case measure=>simp[intOf];omega
  ·obtain rfl:k=ls.length:=by omega
   go_wp2_with fail;go_ret;exact ⟨⟨_,rfl,ho⟩,hkp⟩
theorem aeO {g t l:List UInt8}{n:Int}(h:¬(g.length≤255∧t.length=32∧l.length=32∧abt n 6)):ctxE g n t l=1∧ctxB g n t l=[]:=by simp[ctxE,ctxB,h]
theorem afQ {g t l:List UInt8}{n:Int}(h:g.length≤255∧t.length=32∧l.length=32∧abt n 6):ctxE g n t l=0∧ctxB g n t l=rowB g++numB n 6++(rowB t++rowB l):=by simp[ctxE,ctxB,h]
theorem adG (vg vt vl:Value)(g t l:List UInt8)(n:Int)(w:World)(hg:Rd w vg g)(ht:Rd w vt t)(hl:Rd w vl l)(hn:-9223372036854775808≤n∧n≤9223372036854775807):
  Calls Try.prog 12 #[vg,.int .i64 n,vt,vl] w fun e w'=>(∃ v,e=.returned (.tuple #[v,.int .i64 (ctxE g n t l)])∧Ow 5 w' w.heap.size v (ctxB g n t l))∧Kp w w':=by
 have HG:=Lib.hid hg;have HT:=Lib.hid ht;have HL:=Lib.hid hl;have HW:=Lib.hid (fun W v h=>aaO v [t,l] W h);rw[afu] at HW;obtain ⟨a1,c1,rfl,p1,q1⟩:=hg.shape;obtain ⟨a2,n2,c2,rfl⟩:=ht.sl;obtain ⟨a3,n3,c3,rfl⟩:=hl.sl;have KA:=Lib.hid ((Kp.refl w).alloc (.cells #[.slice a2 n2 c2,.slice a3 n3 c3] 22));unfold maxLen at q1;by_cases h1:g.length≤255
 ·have d1:¬(255:Int)<(g.length:Int):=by omega
  by_cases h2:t.length=32∧l.length=32
  ·rw[decide_eq_true h2] at HW
   have HN:=Lib.hid (fun W=>abV n 6 W hn);by_cases h3:abt n 6
   ·have hy:=afQ ⟨h1,h2.1,h2.2,h3⟩
    rw[hy.1,hy.2];rw[(aa9 h3).1] at HN;have hpg:=ab1 (l:=g) (by omega);have hpt:=ab1 (l:=t) (by omega);have hpl:=ab1 (l:=l) (by omega);have hnl:(numB n 6).length≤6:=by rw[(aa9 h3).2,aae];decide
    have HR1:=Lib.hid (fun W v h=>abe v [g] W h (by simp;omega) (by simpa using hpg.1) (by simp;omega) (by simp));have HR2:=Lib.hid (fun W v h=>abe v [t,l] W h (by simp;omega) (by simp;omega) (by simp;omega) (by simp));rw[show ([g].map rowB).flatten=rowB g by simp] at HR1;rw[show ([t,l].map rowB).flatten=rowB t++rowB l by simp] at HR2;have HC:=Lib.hid (fun W v h=>abc v [rowB g,numB n 6,rowB t++rowB l] W h (by simp;omega) (by simp;omega) (by simp));rw[show ([rowB g,numB n 6,rowB t++rowB l]:List (List UInt8)).flatten=rowB g++numB n 6++(rowB t++rowB l) by simp] at HC;clear hg ht hl hy hpg hpt hpl hnl h2 h3;go_enter Try.func12,Try.ntmps12;go_wp2_with fail;refine (HW.out _ _ (RL.lit2 HT.out HL.out)).mono ?_;rintro _ _ ⟨rfl,rfl⟩;go_wp2_with fail;refine (HN.out _).mono ?_;rintro _ w1 ⟨v1,rfl,o1,k1⟩;obtain ⟨a4,n4,c4,rfl⟩:=o1.rd.sl;have K1:=KA.out.trans k1;go_wp2_with fail;refine (HR1.out _ _ (RL.lits1 (HG.out.kp K1))).mono ?_;rintro _ w2 ⟨⟨v2,rfl,o2⟩,k2⟩;obtain ⟨a5,n5,c5,rfl⟩:=o2.rd.sl;have k2':=((Kp.refl w1).alloc _).trans k2;have K2:=K1.trans k2';go_wp2_with fail;refine (HR2.out _ _ (RL.lit2 (HT.out.kp K2) (HL.out.kp K2))).mono ?_;rintro _ w3 ⟨⟨v3,rfl,o3⟩,k3⟩;obtain ⟨a6,n6,c6,rfl⟩:=o3.rd.sl;have k3':=((Kp.refl w2).alloc _).trans k3;have K3:=K2.trans k3';go_wp2_with fail;refine (HC.out _ _ (RL.lit3 (o2.rd.kp k3') ((o1.rd.kp k2').kp k3') o3.rd)).mono ?_;rintro _ w4 ⟨⟨v4,rfl,o4⟩,k4⟩;go_wp2_with fail;go_ret2;exact ⟨⟨_,rfl,o4.mono (K3.alloc _).size⟩,(K3.alloc _).trans k4⟩
   ·have hy:=aeO (g:=g) (t:=t) (l:=l) (n:=n) fun h=>h3 h.2.2.2
    rw[hy.1,hy.2];rw[(acj h3).1] at HN;clear hg ht hl hy h2 h3;go_enter Try.func12,Try.ntmps12;go_wp2_with fail;refine (HW.out _ _ (RL.lit2 HT.out HL.out)).mono ?_;rintro _ _ ⟨rfl,rfl⟩;go_wp2_with fail;refine (HN.out _).mono ?_;rintro _ w1 ⟨v1,rfl,o1,k1⟩;go_wp2_with fail;go_ret2;exact ⟨⟨_,rfl,Ow.nil _ _ _⟩,KA.out.trans k1⟩
  ·have hy:=aeO (g:=g) (t:=t) (l:=l) (n:=n) fun h=>h2 ⟨h.2.1,h.2.2.1⟩
   rw[hy.1,hy.2];rw[decide_eq_false h2] at HW;clear hg ht hl hy h2;go_enter Try.func12,Try.ntmps12;go_wp2_with fail;refine (HW.out _ _ (RL.lit2 HT.out HL.out)).mono ?_;rintro _ _ ⟨rfl,rfl⟩;go_wp2_with fail;go_ret2;exact ⟨⟨_,rfl,Ow.nil _ _ _⟩,KA.out⟩
 ·have d1:(255:Int)<(g.length:Int):=by omega
  have hy:=aeO (g:=g) (t:=t) (l:=l) (n:=n) fun h=>h1 h.1
  rw[hy.1,hy.2];clear hg ht hl hy h1;go_enter Try.func12,Try.ntmps12;go_wp2_with fail;go_ret2;exact ⟨⟨_,rfl,Ow.nil _ _ _⟩,Kp.refl _⟩
theorem afw {l c b:List UInt8}(h:¬l.length=32):logE l=1∧logR l c b=[]:=by simp[logE,logR,h]
theorem acW {l c b:List UInt8}(h:l.length=32):logE l=0∧logR l c b=aam (rowB l++rowB c++rowB b):=by simp[logE,logR,h]
theorem afR (vl vc vb:Value)(l c b:List UInt8)(w:World)(hl:Rd w vl l)(hc:Rd w vc c)(hb:Rd w vb b)(hcl:c.length≤900)(hbl:b.length≤900):
  Calls Try.prog 23 #[vl,vc,vb] w fun e w'=>(∃ v,e=.returned (.tuple #[v,.int .i64 (logE l)])∧Ow 5 w' w.heap.size v (logR l c b))∧Kp w w':=by
 have HL:=Lib.hid hl;have HC:=Lib.hid hc;have HB:=Lib.hid hb;have HW:=Lib.hid (fun W v h=>aaO v [l] W h);rw[aft] at HW;obtain ⟨a1,n1,c1,rfl⟩:=hl.sl;obtain ⟨a2,n2,c2,rfl⟩:=hc.sl;obtain ⟨a3,n3,c3,rfl⟩:=hb.sl;have KA:=Lib.hid ((Kp.refl w).alloc (.cells #[.slice a1 n1 c1] 22));by_cases h:l.length=32
 ·rw[(acW (c:=c) (b:=b) h).1,(acW h).2]
  rw[decide_eq_true h] at HW;have h1:=ab1 (l:=l) (by omega);have h2:=ab1 (l:=c) (by omega);have h3:=ab1 (l:=b) (by omega);have HR:=Lib.hid (fun W v h=>abe v [l,c,b] W h (by simp;omega) (by simp;omega) (by simp;omega) (by simp));rw[show ([l,c,b].map rowB).flatten=rowB l++rowB c++rowB b by simp] at HR;have HX:=Lib.hid (fun W v h=>acT v (rowB l++rowB c++rowB b) W h (by rw[List.length_append,List.length_append];omega));clear hl hc hb h h1 h2 h3;go_enter Try.func23,Try.ntmps23;go_wp2_with fail;refine (HW.out _ _ (RL.lits1 HL.out)).mono ?_;rintro _ w1 ⟨rfl,e1⟩;have KB:Kp w w1:=by rw[e1];exact KA.out
  clear e1;go_wp2_with fail;refine (HR.out _ _ (RL.lit3 (HL.out.kp KB) (HC.out.kp KB) (HB.out.kp KB))).mono ?_;rintro _ w2 ⟨⟨v2,rfl,o2⟩,k2⟩;have K2:=(KB.alloc _).trans k2;obtain ⟨a5,n5,c5,rfl⟩:=o2.rd.sl;go_wp2_with fail;refine (HX.out _ _ o2.rd).mono ?_;rintro _ w3 ⟨⟨v3,rfl,o3⟩,k3⟩;go_wp2_with fail;go_ret2;exact ⟨⟨_,rfl,o3.mono K2.size⟩,K2.trans k3⟩
 ·rw[(afw (c:=c) (b:=b) h).1,(afw h).2]
  rw[decide_eq_false h] at HW;clear hl hc hb h;go_enter Try.func23,Try.ntmps23;go_wp2_with fail;refine (HW.out _ _ (RL.lits1 HL.out)).mono ?_;rintro _ _ ⟨rfl,rfl⟩;go_wp2_with fail;go_ret2;exact ⟨⟨_,rfl,Ow.nil _ _ _⟩,KA.out⟩
end Go.Proofs.Ytbhkdlpdolioaaa
