import Derived.Test.YthmhklmkgkfcpaaGreatDoorU30
import Derived.Test.YthmhklmkgkfcpaaGreatDoorU32
import Derived.Test.YthmhklmkgkfcpaaGreatDoorU34
set_option linter.unusedVariables false
set_option linter.unusedSimpArgs false
set_option maxHeartbeats 8000000
set_option maxRecDepth 100000
namespace Go.Proofs.YthmhklmkgkfcpaaGreatDoor
open Go.RowKit Go.Shelf
attribute [local go_sem] Oper.semAt_some
section
variable {α : Type} {S : Sh α} {Z : Nat → Prop} {P : Program} {w : World} {t e : TypeId} {F : Fence} {nF : Nat}
theorem acT (K:SK P t e S.k){ops:Array Oper}{rest:List Oper}{o:Oper}{a:Act}{Q:Exit→Act→World→Prop}(hgd:o.guard=none)(s x:Operand)
  (ho:o.op=.call { callee:=.builtin .append,args:=#[s,x],argTypes:=#[t,t] })
  (B:Nat) (v:Value) (ts:List α) (hs:a.eval s=v) (hown:GZ S e Z w B v ts) (arO:Value) (y:α) (hx:a.eval x=arO) (hu:SE S (fun g=>some g=v.ownBlock∨Z g) w arO [y]) (hlen:ts.length+1≤1000000) (hbase:B≤w.heap.size)
  (h:∀ v' w',GZ S e Z w' B v' (ts++[y])→w.grownBy w' v.ownBlock→(v'.ownBlock=v.ownBlock∨v'.ownBlock=some w.heap.size)→wpListIn F nF P ops Q rest (a.put o.dst v') w'):wpListIn F nF P ops Q (o :: rest) a w:=by
 obtain ⟨i,z,hi,hz,hsize,hby,hzc⟩:=K.hi;obtain ⟨us,h1,h2,h3⟩:=hown;obtain ⟨ad,c,rfl,hc,hm,hnil,hcell⟩:=hu;have hbt:(ts.length+1)*i.bytes≤140737488355328:=by
  have:=Nat.mul_le_mul hlen hby;omega
 obtain ⟨b,off,rfl,_,hn⟩:=hcell (by simp);obtain ⟨news,n1,n2,n3,n4⟩:=SE.flat hn;refine wpListIn_append_own_at w hgd s x t ho B e i z S.k i.bytes K.ht hi hz hsize rfl hzc S.pos v ts.length us hs h1 ⟨b,off,none⟩ 1 c news hx n1 (fun j y hj=>?_) n2 (by unfold maxLen;omega) hbt hbase
  (fun v' w' k1 k2 _ k4=>h v' w' ⟨us++news,by rw[List.length_append];exact k1,fun y hy=>?_,fun j y hj=>?_⟩ k2 k4)
 ·rw[Addr.add_mid]
  exact n3 j y hj
 ·rcases List.mem_append.1 hy with hy | hy
  ·exact h2 y hy
  ·exact n2 y hy
 ·have hul:=h1.1
  by_cases hjl:j<ts.length
  ·rw[List.getElem?_append_left hjl] at hj
   obtain ⟨vs,a1,a2⟩:=h3 j y hj;refine ⟨vs,fun f hf=>?_,Sh.moved a2 k2 k4⟩;have h5:(j+1)*S.k≤ts.length*S.k:=Nat.mul_le_mul_right _ hjl;rw[Nat.add_mul,Nat.one_mul] at h5;rw[List.getElem?_append_left (by rw[hul];omega)];exact a1 f hf
  ·rw[List.getElem?_append_right (by omega)] at hj
   obtain ⟨vs,a1,a2⟩:=n4 (j - ts.length) y hj;refine ⟨vs,fun f hf=>?_,Sh.moved a2 k2 k4⟩;have h5:ts.length*S.k≤j*S.k:=Nat.mul_le_mul_right _ (by omega);rw[List.getElem?_append_right (by rw[hul];omega),hul,← a1 f hf,Nat.sub_mul];congr 1
   omega
end
structure OfIn (w0:World)(B0 gb gl last:Nat)(s:List UInt8)(i:Nat)(Y:Nat→Prop)(A:World)(o:Value):Prop where
 mk ::
 box:Bx A gb 115 #[o]
 lst:Bx A gl 3 #[.int .i64 (last:Int)]
 row:GZ shBy 24 (fun g=>Y g∨g=gb) A B0 o (acZ s i)
 apt:∀ g,o.ownBlock=some g→¬Y g
 kp:Kp w0 A
 sz:B0≤A.heap.size
theorem GZ.under {α:Type}{S:Sh α}{e:TypeId}{A A':World}{C gb:Nat}{v:Value}{t:List α}{Y Y':Nat→Prop}(h:GZ S e (fun g=>Y g∨g=gb) A C v t)(hs:Step Y A A')(hg:Grew Y Y' A A')(ha:∀ g,v.ownBlock=some g→¬Y g):GZ S e (fun g=>Y' g∨g=gb) A' C v t:=by
 have h1:GZ S e (fun g=>(Y g∨g=gb)∨A.heap.size≤g) A C v t:=h.solidly fun g hg=>hg.elim (fun h=>.inr (.inl h)) fun h=>.inr (.inr fun hs=>by have:=hs.lt;omega)
 have h2:GZ S e (fun g=>(Y g∨g=gb)∨A.heap.size≤g) A' C v t:=h1.step hs (fun g hg=>.inl (.inl (.inl hg))) ha;refine h2.solidly fun g hg'=>?_
 rcases hg' with h3 | h3
 ·rcases hg g h3 with h4 | h4
  ·exact .inr (.inl (.inl (.inl h4)))
  ·exact .inr (.inl (.inr h4.1))
 ·exact .inr (.inl (.inl (.inr h3)))
theorem OfIn.minds {w0:World}{B0 gb gl last i:Nat}{s:List UInt8}(h0:w0.heap.size≤B0)(h1:gb<B0)(h2:gl<B0)(hle:Prop):acV B0 (fun Y A=>hle∧∃ o,OfIn w0 B0 gb gl last s i Y A o):=by
 rintro Y Y' A A' ⟨hl,o,b1,b2,b3,b4,b5,b6⟩ hY hs hg;have n1:¬Y gb:=fun h=>by have:=(hY _ h).1;omega
 have n2:¬Y gl:=fun h=>by have:=(hY _ h).1;omega
 refine ⟨hl,o,(hs.block gb (Array.getElem?_eq_some_iff.1 b1).1 n1).trans b1,(hs.block gl (Array.getElem?_eq_some_iff.1 b2).1 n2).trans b2,b3.under hs hg b4,fun g hgv h=>?_,Below.trans b5 (hs.below b5.size (fun k hk=>by have:=(hY k hk).1;omega)),Nat.le_trans b6 hs.size⟩;rcases hg g h with h5 | h5
 ·exact b4 g hgv h5
 ·have:=(b3.lt g hgv).2;omega
theorem OfIn.next {w0 A w1:World}{B0 gb gl last i:Nat}{s:List UInt8}{Y:Nat→Prop}{o v v':Value}{tmp:Obj}{R:Nat→Prop}(hw:w0.heap.size≤gb)(hb:gb<B0)(hl:gl<B0)(hne:gb≠gl)(h:OfIn w0 B0 gb gl last s i Y A o)(hY:∀ k,Y k→B0≤k∧k<A.heap.size)(hR:∀ k,R k→k<B0∧k≠gb)
  (ho:GZ shBy 24 (fun g=>(Y g∧¬leads v g)∨g=gb) w1 B0 v' (acZ s (i+1))) (hg:(A.alloc tmp).grownBy w1 o.ownBlock) (hat:v'.ownBlock=o.ownBlock∨v'.ownBlock=some (A.alloc tmp).heap.size):
  w1.frozen? ⟨gb,0,none⟩=false∧w1.cell? ⟨gb,0,none⟩=some o∧OfIn w0 B0 gb gl last s (i+1) (fun k=>Y k∧¬leads v k) (w1.setCell ⟨gb,0,none⟩ v') v'∧Held (fun k=>Y k∨R k) A (w1.setCell ⟨gb,0,none⟩ v'):=by
 obtain ⟨b1,b2,b3,b4,b5,b6⟩:=h;have hob:∀ g,o.ownBlock=some g→B0≤g∧g<A.heap.size:=b3.lt;have nb:some gb≠o.ownBlock:=fun e=>by have:=(hob gb e.symm).1;omega
 have nl:some gl≠o.ownBlock:=fun e=>by have:=(hob gl e.symm).1;omega
 have hb1:Bx w1 gb 115 #[o]:=((hg.block gb (by simp;omega) nb).trans (Below.heap_alloc A _ gb (by omega))).trans b1;have hl1:Bx w1 gl 3 #[.int .i64 (last:Int)]:=((hg.block gl (by simp;omega) nl).trans (Below.heap_alloc A _ gl (by omega))).trans b2;have hst:Step (fun k=>k=gb) w1 (w1.setCell ⟨gb,0,none⟩ v'):=(Step.refl _ _).setCell _ _ (.inr rfl);have hsz:A.heap.size≤w1.heap.size:=by have:=hg.size;simp at this;omega
 have hv':∀ g,v'.ownBlock=some g→B0≤g∧¬Y g:=fun g e=>by
  rcases hat with e2 | e2
  ·rw[e2] at e
   exact ⟨(hob g e).1,b4 g e⟩
  ·rw[e2] at e
   simp only[World.size_alloc,Option.some.injEq] at e;refine ⟨by omega,fun hy=>?_⟩;have:=(hY g hy).2;omega
 have k1:Kp w0 w1:=Kp.grown (v:=o) (b5.alloc _) hg (fun k hk=>by have:=(hob k hk).1;omega);refine ⟨hb1.frozen 0,?_,⟨hb1.set 0 v',(hst.block gl (Array.getElem?_eq_some_iff.1 hl1).1 (fun e=>hne e.symm)).trans hl1,ho.step hst (fun g hg=>.inl (.inr hg)) (fun g e hgb=>by have:=(hv' g e).1;omega),fun g e h2=>(hv' g e).2 h2.1,Below.trans k1 (hst.below k1.size (fun k hk=>by omega)),Nat.le_trans b6 (Nat.le_trans hsz hst.size)⟩,⟨Nat.le_trans hsz hst.size,fun k hk hr=>?_⟩⟩
 ·have:=hb1.cell 0
  simpa using this
 ·have h5:k≠gb∧some k≠o.ownBlock:=by
   rcases hr with h6 | h6
   ·exact ⟨fun e=>by have:=(hY k h6).1;omega,fun e=>b4 k e.symm h6⟩
   ·exact ⟨(hR k h6).2,fun e=>by have:=(hob k e.symm).1;have:=(hR k h6).1;omega⟩
  exact (hst.block k (by omega) h5.1).trans ((hg.block k (by simp;omega) h5.2).trans (Below.heap_alloc A _ k hk))
theorem ad9 (v:Value)(s:List UInt8)(n:Nat)(w:World)(hv:Rd w v s)(hs:s.length=32)(hn:n≤1000):
  Calls Tryz.prog 56 #[v,.int .i64 (n:Int)] w fun e w'=>(∃ o r,e=.returned (.tuple #[o,r])∧arM shBy w' o (acZ s n)∧Rd w' r (adY s n)∧Free (fun g=>g<w.heap.size) o)∧Kp w w':=by
 have HSC:=Lib.hid (fun W (hW:Kp w W)=>aha v s W (hv.kp hW));have HSH:=Lib.hid (fun N b W (hW:Kp w W) (hb:W.cell? ⟨b,0,none⟩=some v)=>ai0 v s N b W (hv.kp hW) hs hb);have HV:=Lib.hid hv;obtain ⟨L,hL⟩:∃ L,(if n=0 then 1 else n)=L:=⟨_,rfl⟩;have hLS:adY s n=secS s L:=by unfold adY;rw[hL]
 have hL1:n≤L∧1≤L∧L≤1000:=by rw[← hL];split <;> omega
 have hmax:max (n:Int) 1=(L:Int):=by rw[← hL];split <;> omega
 rw[hLS];obtain ⟨a,n0,c,rfl⟩:=aac hv;have HLE:=Lib.hid hL1;clear hv hs hL hLS;refine (callsIn_wide (n:=4)).1 ?_;refine callsIn_of_wp_marks Tryz.func56 rfl trivial ?_ rfl;refine wpIn_wide.2 ?_;simp only[Tryz.ntmps56,List.append_toArray,List.size_toArray,List.length_nil,List.length_cons,Nat.reduceAdd,Nat.reduceSub,Array.replicate_succ,Array.replicate_zero,List.push_toArray,List.nil_append,List.cons_append];go_wp2_with fail;obtain ⟨w2,hw2⟩:∃ x,(w.alloc (.cells #[.slice none 0 0] 115)).alloc (.cells #[.int .i64 (L:Int)] 3)=x:=⟨_,rfl⟩;have hs2:w2.heap.size=w.heap.size+2:=by rw[← hw2];simp
 have hb2:Bx w2 w.heap.size 115 #[.slice none 0 0]:=by rw[← hw2];exact (Bx.new w _ _).kp ((Kp.refl _).alloc _)
 have hl2:Bx w2 (w.heap.size+1) 3 #[.int .i64 (L:Int)]:=by
  have:=Bx.new (w.alloc (.cells #[.slice none 0 0] 115)) 3 #[.int .i64 (L:Int)];rw[World.size_alloc] at this;rw[← hw2];exact this
 have hk2:Kp w w2:=by rw[← hw2];exact ((Kp.refl _).alloc _).alloc _
 rw[hw2];clear hw2;refine (HSC.out w2 hk2).mono ?_;rintro _ _ ⟨rfl,rfl⟩;obtain ⟨w3,hw3⟩:∃ x,w2.alloc (.cells #[.slice a n0 c] 24)=x:=⟨_,rfl⟩;have hk3:Kp w2 w3:=by rw[← hw3];exact (Kp.refl _).alloc _
 have hs3:w3.heap.size=w.heap.size+3:=by rw[← hw3];simp[hs2]
 have hc3:w3.cell? ⟨w2.heap.size,0,none⟩=some (.slice a n0 c):=by
  have:=(Bx.new w2 24 #[.slice a n0 c]).cell 0;rw[← hw3];simp
 rw[hw3];have HSE:=Lib.hid (HSH.out (L+1) w2.heap.size w3 (hk2.trans hk3) hc3);have HI0:Hid (OfIn w w3.heap.size w.heap.size (w.heap.size+1) L s 0 (fun _=>False) w3 (.slice none 0 0)):=⟨hb2.kp hk3,hl2.kp hk3,by exact GZ.nil _ _ _,fun g hg=>(by cases hg),hk2.trans hk3,Nat.le_refl _⟩;have HZ:Hid (w2.heap.size=w.heap.size+2∧w3.heap.size=w.heap.size+3):=⟨hs2,hs3⟩;have K3:=Lib.hid (hk2.trans hk3);have hE:∀ args w,(callFunc 133 args).run Tryz.prog w=.ok (.enter 133 args) w:=enters_of Tryz.func133 (by kernel_rfl) rfl;clear hw3 hc3 hb2 hl2 hk2 hk3 HSC HSH hs2 hs3;go_wp2_with fail;obtain ⟨VL,hVL⟩:∃ VL:Nat→Prop,(fun k=>leads (.slice a n0 c) k)=VL:=⟨_,rfl⟩;have hVL':∀ k,leads (.slice a n0 c) k↔VL k:=fun k=>by rw[← hVL]
 have hVLT:∀ k,VL k→k<w.heap.size:=fun k hk=>HV.out.leads_lt k ((hVL' k).2 hk)
 simp only[hVL'] at HSE;obtain ⟨R,hR⟩:∃ R:Nat→Prop,(fun k=>k=w2.heap.size∨VL k)=R:=⟨_,rfl⟩;have HRB:Hid (∀ k,R k→k<w3.heap.size∧k≠w.heap.size):=fun k hk=>by
  have:=HZ.out;rw[← hR] at hk;rcases hk with rfl | hk
  ·omega
  ·have:=hVLT k hk;omega
 have HVR:Hid (∀ k,VL k→R k):=fun k hk=>by rw[← hR];exact .inr hk
 have HVT:=Lib.hid hVLT;rw[hR] at HSE;clear hR hVL hVL' hVLT;refine ag9 (gf:=133) (lb:=#[.pointer (some ⟨w2.heap.size,0,none⟩)]) rfl hE (Kp.refl w3) (fun k hk=>(HRB.out k hk).1) HSE.out rfl
   (fun i Y A=>i≤L∧∃ o,OfIn w w3.heap.size w.heap.size (w.heap.size+1) L s i Y A o) (fun e i Y A=>e=.exit 0∧∃ o,OfIn w w3.heap.size w.heap.size (w.heap.size+1) L s (L+1) Y A o) ?mI ?mIx ?IN ?Tl ?TT ?h0
   (fun v a' _=>a'={ tmps:=#[.slice a n0 c,.int .i64 (n:Int),undef,undef,.slice none 0 0,.slice none 0 0,.pointer (some ⟨w.heap.size,0,none⟩),.pointer (some ⟨w.heap.size+1,0,none⟩),v,.int .i64 (n:Int),.int .i64 (L:Int),.slice a n0 c,.func (.func 133) #[] #[.pointer (some ⟨w2.heap.size,0,none⟩)],v,undef,undef,undef,undef,undef,undef,undef,undef,undef,undef,undef,undef,undef,undef,undef],defers:=[] })
   (fun _ _ _ _ _ _ h _ _=>h) ?assign ?body ?done ?stop
 case mI=>intro i;exact OfIn.minds (by have:=HZ.out;omega) (by have:=HZ.out;omega) (by have:=HZ.out;omega) _
 case mIx=>intro e i;exact OfIn.minds (by have:=HZ.out;omega) (by have:=HZ.out;omega) (by have:=HZ.out;omega) _
 case IN=>rintro Y A ⟨h,_⟩;omega
 case Tl=>intro i v Y A h k hk;exact (h.2 k hk).imp id (HVR.out k)
 case TT=>
  rintro i v Yi Y A A' l o ⟨hr,hv⟩ hyy _ _ hl hs;exact ⟨hr.turn hl rfl hs,fun k hk=>(hv k hk).imp (hyy k) id⟩
 case h0=>exact ⟨Nat.zero_le _,_,HI0.out⟩
 case assign=>
  intro l i Y Yi v A Kk hI hTv hK;obtain ⟨a9,n9,c9,rfl⟩:=aac hTv.1;gi_wp2
  exact hK _ _ (Kp.refl _) rfl
 case body=>
  rintro l i Y v a' A hi ⟨hiL,o,hI⟩ hyb hRA ⟨hrd,hvy⟩ rfl;have ho6:=hI.box.cell 0;have hl6:=hI.lst.cell 0;simp only[List.getElem?_toArray,List.getElem?_cons_zero] at ho6 hl6;obtain ⟨a9,n9,c9,rfl⟩:=aac hrd;obtain ⟨ao,no,co,rfl⟩:=SE.sl hI.row.gl;have hz:=HZ.out;have hsA:=hI.sz;have hlen:(acZ s i).length+1≤1000000:=by rw[aci];omega
  have HLIT:Hid (SE shBy (fun g=>some g=(Value.slice ao no co).ownBlock∨((Y g∧¬leads (.slice a9 n9 c9) g)∨g=w.heap.size)) (A.alloc (.cells #[.slice a9 n9 c9] 24)) (.slice (some ⟨A.heap.size,0,none⟩) 1 1) [secS s i]):=by
   refine SE.litZ (S:=shBy) 24 ⟨_,rfl,hrd,fun x m c' e h0 hk=>?_⟩ rfl;have hlv:leads (.slice a9 n9 c9) x.block:=⟨x,m,c',e,h0,rfl⟩;rcases hk with hk | hk | hk
   ·have h1:=(hI.row.lt _ hk.symm).1
    rcases hvy _ hlv with h2 | h2
    ·exact hI.apt _ hk.symm h2
    ·have:=HVT.out _ h2;omega
   ·exact hk.2 hlv
   ·rcases hvy _ hlv with h2 | h2
    ·have:=(hyb _ h2).1;omega
    ·have:=HVT.out _ h2;omega
  have HROW:Hid (GZ shBy 24 (fun g=>(Y g∧¬leads (.slice a9 n9 c9) g)∨g=w.heap.size) (A.alloc (.cells #[.slice a9 n9 c9] 24)) w3.heap.size (.slice ao no co) (acZ s i)):=
   (hI.row.solidly fun g hg=>.inr (.inl (hg.imp And.left id))).kp ((Kp.refl A).alloc _)
  have hbase:w3.heap.size≤(A.alloc (.cells #[.slice a9 n9 c9] 24)).heap.size:=Nat.le_trans hsA (by simp);have HIC:=Lib.hid hI;have HYB:=Lib.hid hyb;have hsu:=ami s i;clear hI hrd hvy hsA hz;by_cases hlast:i=L
  ·subst hlast
   gi_wp2_with (gi_at_builtin;refine acT (S:=shBy) (Z:=fun g=>(Y g∧¬leads (.slice a9 n9 c9) g)∨g=w.heap.size) (o:=⟨some 17,_,_,_,_,_⟩) byK rfl _ _ rfl w3.heap.size _ (acZ s i) rfl HROW.out _ (secS s i) rfl HLIT.out hlen hbase ?_;intro v' w5 o5 g5 h5;rw[← hsu] at o5;obtain ⟨a5,c5,e5,_,_⟩:=SE.shape o5.gl;rw[aci] at e5;subst e5;obtain ⟨f5,cc5,hI5,hH5⟩:=OfIn.next (R:=R) (by have:=HZ.out;omega) (by have:=HZ.out;omega) (by have:=HZ.out;omega) (by omega) HIC.out HYB.out HRB.out o5 g5 h5;have ca:=hI5.box.cell 0;have cb:=hI5.lst.cell 0;simp only[List.getElem?_toArray,List.getElem?_cons_zero] at ca cb)
   exact ⟨hH5,.inr ⟨_,rfl,rfl,_,hI5⟩⟩
  ·gi_wp2_with (gi_at_builtin;refine acT (S:=shBy) (Z:=fun g=>(Y g∧¬leads (.slice a9 n9 c9) g)∨g=w.heap.size) (o:=⟨some 17,_,_,_,_,_⟩) byK rfl _ _ rfl w3.heap.size _ (acZ s i) rfl HROW.out _ (secS s i) rfl HLIT.out hlen hbase ?_;intro v' w5 o5 g5 h5;rw[← hsu] at o5;obtain ⟨a5,c5,e5,_,_⟩:=SE.shape o5.gl;rw[aci] at e5;subst e5;obtain ⟨f5,cc5,hI5,hH5⟩:=OfIn.next (R:=R) (by have:=HZ.out;omega) (by have:=HZ.out;omega) (by have:=HZ.out;omega) (by omega) HIC.out HYB.out HRB.out o5 g5 h5;have ca:=hI5.box.cell 0;have cb:=hI5.lst.cell 0;simp only[List.getElem?_toArray,List.getElem?_cons_zero] at ca cb)
   exact .inl ⟨by omega,_,hI5⟩
 case done=>rintro D Y W hD hYD hYb ⟨h,_⟩ hd;omega
 case stop=>
  rintro D e i Y W hD hYD hYb hi ⟨rfl,o,hI⟩ hd;rename_i Qp Kk hKk
  have hgl:=hI.row.gl;obtain ⟨gb,ob,cb,q,e1,_,cq,rq⟩:=arM.bs (i:=L) hgl (by rw[aci];omega);rw[aci] at e1;subst e1;obtain ⟨aq,nq,cq',rfl⟩:=aac rq;have c6:=hI.box.cell 0;have c7:=hI.lst.cell 0;simp only[List.getElem?_toArray,List.getElem?_cons_zero] at c6 c7;have e2:bsAt (acZ s (L+1)) L=secS s L:=aiH s (by omega);rw[e2] at rq;have hpre:=SE.pre hgl n (by omega);rw[amj s (by omega)] at hpre;have HG:=Lib.hid hpre;have HFR:Hid (Free (fun g=>g<w.heap.size) (.slice (some ⟨gb,ob,none⟩) n cb)):=aaX (C:=w3.heap.size) (fun g hg=>(hI.row.lt g (by cases hg;rfl)).1) fun g hg=>by have:=HZ.out;omega
  have HR:=Lib.hid rq;have HKW:=Lib.hid hI.kp;have HD:=Lib.hid hd;have i1:¬(n:Int)<0:=by omega
  have i2:(n:Int)≤(cb:Int):=by
   obtain ⟨_,c',e3,h3,_⟩:=SE.shape hgl;rw[aci] at e3 h3;simp only[Value.slice.injEq] at e3;omega
  have i3:(L:Int)<((L+1:Nat):Int):=by omega
  clear hI hgl hpre rq hd e2 hYb hYD;go_wp2;go_region
  go_wp2;have hd2:W.drew.heap[D]?=some (.deferred (some [])):=HD.out;have hst:Step (fun k=>k=D) W.drew (W.drew.putObj D (.deferred none)):=(Step.refl _ _).putObj _ _ (.inr rfl);have hcs:Cs W.drew (W.drew.putObj D (.deferred none)):=hst.cs fun g e hs=>by
   subst e;obtain ⟨_,_,_,h⟩:=hs;rw[hd2] at h;cases h
  have hkd:Kp W W.drew:=(Kp.refl W).drew;have hg9:arM shBy (W.drew.putObj D (.deferred none)) (.slice (some ⟨gb,ob,none⟩) n cb) (acZ s n):=arM.cs (arM.kp (show arM shBy W _ _ from HG.out) hkd) hcs;have hr9:=(HR.out.kp hkd).cs hcs;refine ⟨by simp,.inl ⟨_,_,rfl,run_takeDeferred hd2,?_⟩⟩;exact ⟨_,results_tmp2 rfl _ _ _,⟨.slice (some ⟨gb,ob,none⟩) n cb,.slice aq nq cq',rfl,hg9,hr9,HFR.out⟩,Below.trans (HKW.out.trans hkd) (hst.below (HKW.out.trans hkd).size (fun k hk=>by have:=HZ.out;omega))⟩
end Go.Proofs.YthmhklmkgkfcpaaGreatDoor
