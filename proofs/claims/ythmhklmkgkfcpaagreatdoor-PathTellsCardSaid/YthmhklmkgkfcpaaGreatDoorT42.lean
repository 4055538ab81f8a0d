import Derived.Test.YthmhklmkgkfcpaaGreatDoorT25
import Derived.Test.YthmhklmkgkfcpaaGreatDoorT30
import Derived.Test.YthmhklmkgkfcpaaGreatDoorT31
import Derived.Test.YthmhklmkgkfcpaaGreatDoorT34
import Derived.Test.YthmhklmkgkfcpaaGreatDoorT36
import Derived.Test.YthmhklmkgkfcpaaGreatDoorT40
import Derived.Test.YthmhklmkgkfcpaaGreatDoorT41
import Derived.Deep.RegionHeld3
set_option linter.unusedVariables false
set_option linter.unusedSimpArgs false
set_option maxHeartbeats 8000000
set_option maxRecDepth 100000
namespace Go.Proofs.YthmhklmkgkfcpaaGreatDoor
open Go.RowKit Go.Shelf
attribute [local go_sem] Oper.semAt_some
section
variable {α : Type} {S : Sh α} {Z : Nat → Prop} {P : Program} {w : World} {t e : TypeId} {F : Fence} {nF : Nat}
theorem acW (K:SK P t e S.k){ops:Array Oper}{rest:List Oper}{o:Oper}{a:Act}{Q:Exit→Act→World→Prop}(hgd:o.guard=none)(s x:Operand)
  (ho:o.op=.call { callee:=.builtin .append,args:=#[s,x],argTypes:=#[t,t] })
  (B:Nat) (v:Value) (ts:List α) (hs:a.eval s=v) (hown:GZ S e Z w B v ts) (ar1:Value) (y:α) (hx:a.eval x=ar1) (hu:SE S (fun g=>some g=v.ownBlock∨Z g) w ar1 [y]) (hlen:ts.length+1≤1000000) (hbase:B≤w.heap.size)
  (h:∀ v' w',GZ S e Z w' B v' (ts++[y])→w.grownBy w' v.ownBlock→(v'.ownBlock=v.ownBlock∨v'.ownBlock=some w.heap.size)→wpListIn F nF P ops Q rest (a.put o.dst v') w'):wpListIn F nF P ops Q (o :: rest) a w:=by
 obtain ⟨i,z,hi,hz,hsize,hby,hzc⟩:=K.hi;obtain ⟨us,h1,h2,h3⟩:=hown;obtain ⟨ad,c,rfl,hc,hm,hnil,hcell⟩:=hu;have hbt:(ts.length+1)*i.bytes≤140737488355328:=by
  have:=Nat.mul_le_mul hlen hby;omega
 obtain ⟨b,off,rfl,_,hn⟩:=hcell (by simp);obtain ⟨news,n1,n2,n3,n4⟩:=SE.flat hn;refine wpListIn_append_own_at w hgd s x t ho B e i z S.k i.bytes K.ht hi hz hsize rfl hzc S.pos v ts.length us hs h1 ⟨b,off,none⟩ 1 c news hx n1 (fun j y hj=>?_) n2 (by unfold maxLen;omega) hbt hbase
  (fun v' w' k1 k2 _ k4=>h v' w' ⟨us++news,by rw[List.length_append];exact k1,fun y hy=>?_,fun j y hj=>?_⟩ k2 k4)
 ·rw[Addr.add_mid]
  exact n3 j y hj
 ·rcases List.mem_append.1 hy with hy | hy
  ·exact h2 y hy
  ·exact n2 y hy
 ·have hul:=h1.1
  by_cases hjl:j<ts.length
  ·rw[List.getElem?_append_left hjl] at hj
   obtain ⟨vs,a1,a2⟩:=h3 j y hj;refine ⟨vs,fun f hf=>?_,Sh.moved a2 k2 k4⟩;have h5:(j+1)*S.k≤ts.length*S.k:=Nat.mul_le_mul_right _ hjl;rw[Nat.add_mul,Nat.one_mul] at h5;rw[List.getElem?_append_left (by rw[hul];omega)];exact a1 f hf
  ·rw[List.getElem?_append_right (by omega)] at hj
   obtain ⟨vs,a1,a2⟩:=n4 (j - ts.length) y hj;refine ⟨vs,fun f hf=>?_,Sh.moved a2 k2 k4⟩;have h5:ts.length*S.k≤j*S.k:=Nat.mul_le_mul_right _ (by omega);rw[List.getElem?_append_right (by rw[hul];omega),hul,← a1 f hf,Nat.sub_mul];congr 1
   omega
end
structure OfIn (w0:World)(B0 gb gl last:Nat)(s:List UInt8)(i:Nat)(Y:Nat→Prop)(A:World)(o:Value):Prop where
 mk ::
 box:Bx A gb 115 #[o]
 lst:Bx A gl 3 #[.int .i64 (last:Int)]
 row:GZ shBy 24 (fun g=>Y g∨g=gb) A B0 o (ac2 s i)
 apt:∀ g,o.ownBlock=some g→¬Y g
 kp:Kp w0 A
 sz:B0≤A.heap.size
theorem GZ.under {α:Type}{S:Sh α}{e:TypeId}{A A':World}{C gb:Nat}{v:Value}{t:List α}{Y Y':Nat→Prop}(h:GZ S e (fun g=>Y g∨g=gb) A C v t)(hs:Step Y A A')(hg:Grew Y Y' A A')(ha:∀ g,v.ownBlock=some g→¬Y g):GZ S e (fun g=>Y' g∨g=gb) A' C v t:=by
 have h1:GZ S e (fun g=>(Y g∨g=gb)∨A.heap.size≤g) A C v t:=h.solidly fun g hg=>hg.elim (fun h=>.inr (.inl h)) fun h=>.inr (.inr fun hs=>by have:=hs.lt;omega)
 have h2:GZ S e (fun g=>(Y g∨g=gb)∨A.heap.size≤g) A' C v t:=h1.step hs (fun g hg=>.inl (.inl (.inl hg))) ha;refine h2.solidly fun g hg'=>?_
 rcases hg' with h3 | h3
 ·rcases hg g h3 with h4 | h4
  ·exact .inr (.inl (.inl (.inl h4)))
  ·exact .inr (.inl (.inr h4.1))
 ·exact .inr (.inl (.inl (.inr h3)))
theorem OfIn.minds {w0:World}{B0 gb gl last i:Nat}{s:List UInt8}(h0:w0.heap.size≤B0)(h1:gb<B0)(h2:gl<B0)(hle:Prop):acZ B0 (fun Y A=>hle∧∃ o,OfIn w0 B0 gb gl last s i Y A o):=by
 rintro Y Y' A A' ⟨hl,o,b1,b2,b3,b4,b5,b6⟩ hY hs hg;have n1:¬Y gb:=fun h=>by have:=(hY _ h).1;omega
 have n2:¬Y gl:=fun h=>by have:=(hY _ h).1;omega
 refine ⟨hl,o,(hs.block gb (Array.getElem?_eq_some_iff.1 b1).1 n1).trans b1,(hs.block gl (Array.getElem?_eq_some_iff.1 b2).1 n2).trans b2,b3.under hs hg b4,fun g hgv h=>?_,Below.trans b5 (hs.below b5.size (fun k hk=>by have:=(hY k hk).1;omega)),Nat.le_trans b6 hs.size⟩;rcases hg g h with h5 | h5
 ·exact b4 g hgv h5
 ·have:=(b3.lt g hgv).2;omega
theorem OfIn.next {w0 A w1:World}{B0 gb gl last i:Nat}{s:List UInt8}{Y:Nat→Prop}{o v v':Value}{tmp:Obj}{R:Nat→Prop}(hw:w0.heap.size≤gb)(hb:gb<B0)(hl:gl<B0)(hne:gb≠gl)(h:OfIn w0 B0 gb gl last s i Y A o)(hY:∀ k,Y k→B0≤k∧k<A.heap.size)(hR:∀ k,R k→k<B0∧k≠gb)
  (ho:GZ shBy 24 (fun g=>(Y g∧¬leads v g)∨g=gb) w1 B0 v' (ac2 s (i+1))) (hg:(A.alloc tmp).grownBy w1 o.ownBlock) (hat:v'.ownBlock=o.ownBlock∨v'.ownBlock=some (A.alloc tmp).heap.size):
  w1.frozen? ⟨gb,0,none⟩=false∧w1.cell? ⟨gb,0,none⟩=some o∧OfIn w0 B0 gb gl last s (i+1) (fun k=>Y k∧¬leads v k) (w1.setCell ⟨gb,0,none⟩ v') v'∧Held (fun k=>Y k∨R k) A (w1.setCell ⟨gb,0,none⟩ v'):=by
 obtain ⟨b1,b2,b3,b4,b5,b6⟩:=h;have hob:∀ g,o.ownBlock=some g→B0≤g∧g<A.heap.size:=b3.lt;have nb:some gb≠o.ownBlock:=fun e=>by have:=(hob gb e.symm).1;omega
 have nl:some gl≠o.ownBlock:=fun e=>by have:=(hob gl e.symm).1;omega
 have hb1:Bx w1 gb 115 #[o]:=((hg.block gb (by simp;omega) nb).trans (Below.heap_alloc A _ gb (by omega))).trans b1;have hl1:Bx w1 gl 3 #[.int .i64 (last:Int)]:=((hg.block gl (by simp;omega) nl).trans (Below.heap_alloc A _ gl (by omega))).trans b2;have hst:Step (fun k=>k=gb) w1 (w1.setCell ⟨gb,0,none⟩ v'):=(Step.refl _ _).setCell _ _ (.inr rfl);have hsz:A.heap.size≤w1.heap.size:=by have:=hg.size;simp at this;omega
 have hv':∀ g,v'.ownBlock=some g→B0≤g∧¬Y g:=fun g e=>by
  rcases hat with e2 | e2
  ·rw[e2] at e
   exact ⟨(hob g e).1,b4 g e⟩
  ·rw[e2] at e
   simp only[World.size_alloc,Option.some.injEq] at e;refine ⟨by omega,fun hy=>?_⟩;have:=(hY g hy).2;omega
 have k1:Kp w0 w1:=Kp.grown (v:=o) (b5.alloc _) hg (fun k hk=>by have:=(hob k hk).1;omega);refine ⟨hb1.frozen 0,?_,⟨hb1.set 0 v',(hst.block gl (Array.getElem?_eq_some_iff.1 hl1).1 (fun e=>hne e.symm)).trans hl1,ho.step hst (fun g hg=>.inl (.inr hg)) (fun g e hgb=>by have:=(hv' g e).1;omega),fun g e h2=>(hv' g e).2 h2.1,Below.trans k1 (hst.below k1.size (fun k hk=>by omega)),Nat.le_trans b6 (Nat.le_trans hsz hst.size)⟩,⟨Nat.le_trans hsz hst.size,fun k hk hr=>?_⟩⟩
 ·have:=hb1.cell 0
  simpa using this
 ·have h5:k≠gb∧some k≠o.ownBlock:=by
   rcases hr with h6 | h6
   ·exact ⟨fun e=>by have:=(hY k h6).1;omega,fun e=>b4 k e.symm h6⟩
   ·exact ⟨(hR k h6).2,fun e=>by have:=(hob k e.symm).1;have:=(hR k h6).1;omega⟩
  exact (hst.block k (by omega) h5.1).trans ((hg.block k (by simp;omega) h5.2).trans (Below.heap_alloc A _ k hk))
theorem aef (v:Value)(s:List UInt8)(n:Nat)(w:World)(hv:Rd w v s)(hs:s.length=32)(hn:n≤1000):
  Calls Tryz.prog 56 #[v,.int .i64 (n:Int)] w fun e w'=>(∃ o r,e=.returned (.tuple #[o,r])∧arZ shBy w' o (ac2 s n)∧Rd w' r (afY s n)∧Free (fun g=>g<w.heap.size) o)∧Kp w w':=by
 have HSC:=Lib.hid (fun W (hW:Kp w W)=>ahf v s W (hv.kp hW));have HSH:=Lib.hid (fun N b W (hW:Kp w W) (hb:W.cell? ⟨b,0,none⟩=some v)=>aja v s N b W (hv.kp hW) hs hb);have HV:=Lib.hid hv;obtain ⟨L,hL⟩:∃ L,(if n=0 then 1 else n)=L:=⟨_,rfl⟩;have hLS:afY s n=secS s L:=by unfold afY;rw[hL]
 have hL1:n≤L∧1≤L∧L≤1000:=by rw[← hL];split <;> omega
 have hmax:max (n:Int) 1=(L:Int):=by rw[← hL];split <;> omega
 rw[hLS];obtain ⟨a,n0,c,rfl⟩:=aab hv;have HLE:=Lib.hid hL1;clear hv hs hL hLS;refine (callsIn_wide (n:=4)).1 ?_;refine callsIn_of_wp_marks Tryz.func56 rfl trivial ?_ rfl;refine wpIn_wide.2 ?_;simp only[Tryz.ntmps56,List.append_toArray,List.size_toArray,List.length_nil,List.length_cons,Nat.reduceAdd,Nat.reduceSub,Array.replicate_succ,Array.replicate_zero,List.push_toArray,List.nil_append,List.cons_append];go_wp2_with fail;obtain ⟨w2,hw2⟩:∃ x,(w.alloc (.cells #[.slice none 0 0] 115)).alloc (.cells #[.int .i64 (L:Int)] 3)=x:=⟨_,rfl⟩;have hs2:w2.heap.size=w.heap.size+2:=by rw[← hw2];simp
 have hb2:Bx w2 w.heap.size 115 #[.slice none 0 0]:=by rw[← hw2];exact (Bx.new w _ _).kp ((Kp.refl _).alloc _)
 have hl2:Bx w2 (w.heap.size+1) 3 #[.int .i64 (L:Int)]:=by
  have:=Bx.new (w.alloc (.cells #[.slice none 0 0] 115)) 3 #[.int .i64 (L:Int)];rw[World.size_alloc] at this;rw[← hw2];exact this
 have hk2:Kp w w2:=by rw[← hw2];exact ((Kp.refl _).alloc _).alloc _
 rw[hw2];clear hw2;refine (HSC.out w2 hk2).mono ?_;rintro _ _ ⟨rfl,rfl⟩;obtain ⟨w3,hw3⟩:∃ x,w2.alloc (.cells #[.slice a n0 c] 24)=x:=⟨_,rfl⟩;have hk3:Kp w2 w3:=by rw[← hw3];exact (Kp.refl _).alloc _
 have hs3:w3.heap.size=w.heap.size+3:=by rw[← hw3];simp[hs2]
 have hc3:w3.cell? ⟨w2.heap.size,0,none⟩=some (.slice a n0 c):=by
  have:=(Bx.new w2 24 #[.slice a n0 c]).cell 0;rw[← hw3];simp
 rw[hw3];have HSE:=Lib.hid (HSH.out (L+1) w2.heap.size w3 (hk2.trans hk3) hc3);have HI0:Hid (OfIn w w3.heap.size w.heap.size (w.heap.size+1) L s 0 (fun _=>False) w3 (.slice none 0 0)):=⟨hb2.kp hk3,hl2.kp hk3,by exact GZ.nil _ _ _,fun g hg=>(by cases hg),hk2.trans hk3,Nat.le_refl _⟩;have HZ:Hid (w2.heap.size=w.heap.size+2∧w3.heap.size=w.heap.size+3):=⟨hs2,hs3⟩;have K3:=Lib.hid (hk2.trans hk3);have hE:∀ args w,(callFunc 133 args).run Tryz.prog w=.ok (.enter 133 args) w:=enters_of Tryz.func133 (by kernel_rfl) rfl;clear hw3 hc3 hb2 hl2 hk2 hk3 HSC HSH hs2 hs3;go_wp2_with fail;obtain ⟨VL,hVL⟩:∃ VL:Nat→Prop,(fun k=>leads (.slice a n0 c) k)=VL:=⟨_,rfl⟩;have hVL':∀ k,leads (.slice a n0 c) k↔VL k:=fun k=>by rw[← hVL]
 have hVLT:∀ k,VL k→k<w.heap.size:=fun k hk=>HV.out.leads_lt k ((hVL' k).2 hk)
 simp only[hVL'] at HSE;obtain ⟨R,hR⟩:∃ R:Nat→Prop,(fun k=>k=w2.heap.size∨VL k)=R:=⟨_,rfl⟩;have HRB:Hid (∀ k,R k→k<w3.heap.size∧k≠w.heap.size):=fun k hk=>by
  have:=HZ.out;rw[← hR] at hk;rcases hk with rfl | hk
  ·omega
  ·have:=hVLT k hk;omega
 have HVR:Hid (∀ k,VL k→R k):=fun k hk=>by rw[← hR];exact .inr hk
 have HVT:=Lib.hid hVLT;rw[hR] at HSE;clear hR hVL hVL' hVLT;refine ahe (gf:=133) (lb:=#[.pointer (some ⟨w2.heap.size,0,none⟩)]) rfl hE (Kp.refl w3) (fun k hk=>(HRB.out k hk).1) HSE.out rfl
   (fun i Y A=>i≤L∧∃ o,OfIn w w3.heap.size w.heap.size (w.heap.size+1) L s i Y A o) (fun e i Y A=>e=.exit 0∧∃ o,OfIn w w3.heap.size w.heap.size (w.heap.size+1) L s (L+1) Y A o) ?mI ?mIx ?IN ?Tl ?TT ?h0
   (fun v a' _=>a'={ tmps:=#[.slice a n0 c,.int .i64 (n:Int),undef,undef,.slice none 0 0,.slice none 0 0,.pointer (some ⟨w.heap.size,0,none⟩),.pointer (some ⟨w.heap.size+1,0,none⟩),v,.int .i64 (n:Int),.int .i64 (L:Int),.slice a n0 c,.func (.func 133) #[] #[.pointer (some ⟨w2.heap.size,0,none⟩)],v,undef,undef,undef,undef,undef,undef,undef,undef,undef,undef,undef,undef,undef,undef,undef],defers:=[] })
   (fun _ _ _ _ _ _ h _ _=>h) ?assign ?body ?done ?stop
 case mI=>intro i;exact OfIn.minds (by have:=HZ.out;omega) (by have:=HZ.out;omega) (by have:=HZ.out;omega) _
 case mIx=>intro e i;exact OfIn.minds (by have:=HZ.out;omega) (by have:=HZ.out;omega) (by have:=HZ.out;omega) _
 case IN=>rintro Y A ⟨h,_⟩;omega
 case Tl=>intro i v Y A h k hk;exact (h.2 k hk).imp id (HVR.out k)
 case TT=>
  rintro i v Yi Y A A' l o ⟨hr,hv⟩ hyy _ _ hl hs;exact ⟨hr.turn hl rfl hs,fun k hk=>(hv k hk).imp (hyy k) id⟩
 case h0=>exact ⟨Nat.zero_le _,_,HI0.out⟩
 case assign=>
  intro l i Y Yi v A Kk hI hTv hK;obtain ⟨a9,n9,c9,rfl⟩:=aab hTv.1;gi_wp2
  exact hK _ _ (Kp.refl _) rfl
 case body=>
  rintro l i Y v a' A hi ⟨hiL,o,hI⟩ hyb hRA ⟨hrd,hvy⟩ rfl;have ho6:=hI.box.cell 0;have hl6:=hI.lst.cell 0;simp only[List.getElem?_toArray,List.getElem?_cons_zero] at ho6 hl6;obtain ⟨a9,n9,c9,rfl⟩:=aab hrd;obtain ⟨ao,no,co,rfl⟩:=SE.sl hI.row.gl;have hz:=HZ.out;have hsA:=hI.sz;have hlen:(ac2 s i).length+1≤1000000:=by rw[acg];omega
  have HLIT:Hid (SE shBy (fun g=>some g=(Value.slice ao no co).ownBlock∨((Y g∧¬leads (.slice a9 n9 c9) g)∨g=w.heap.size)) (A.alloc (.cells #[.slice a9 n9 c9] 24)) (.slice (some ⟨A.heap.size,0,none⟩) 1 1) [secS s i]):=by
   refine SE.litZ (S:=shBy) 24 ⟨_,rfl,hrd,fun x m c' e h0 hk=>?_⟩ rfl;have hlv:leads (.slice a9 n9 c9) x.block:=⟨x,m,c',e,h0,rfl⟩;rcases hk with hk | hk | hk
   ·have h1:=(hI.row.lt _ hk.symm).1
    rcases hvy _ hlv with h2 | h2
    ·exact hI.apt _ hk.symm h2
    ·have:=HVT.out _ h2;omega
   ·exact hk.2 hlv
   ·rcases hvy _ hlv with h2 | h2
    ·have:=(hyb _ h2).1;omega
    ·have:=HVT.out _ h2;omega
  have HROW:Hid (GZ shBy 24 (fun g=>(Y g∧¬leads (.slice a9 n9 c9) g)∨g=w.heap.size) (A.alloc (.cells #[.slice a9 n9 c9] 24)) w3.heap.size (.slice ao no co) (ac2 s i)):=
   (hI.row.solidly fun g hg=>.inr (.inl (hg.imp And.left id))).kp ((Kp.refl A).alloc _)
  have hbase:w3.heap.size≤(A.alloc (.cells #[.slice a9 n9 c9] 24)).heap.size:=Nat.le_trans hsA (by simp);have HIC:=Lib.hid hI;have HYB:=Lib.hid hyb;have hsu:=amp s i;clear hI hrd hvy hsA hz;by_cases hlast:i=L
  ·subst hlast
   gi_wp2_with (gi_at_builtin;refine acW (S:=shBy) (Z:=fun g=>(Y g∧¬leads (.slice a9 n9 c9) g)∨g=w.heap.size) (o:=⟨some 17,_,_,_,_,_⟩) byK rfl _ _ rfl w3.heap.size _ (ac2 s i) rfl HROW.out _ (secS s i) rfl HLIT.out hlen hbase ?_;intro v' w5 o5 g5 h5;rw[← hsu] at o5;obtain ⟨a5,c5,e5,_,_⟩:=SE.shape o5.gl;rw[acg] at e5;subst e5;obtain ⟨f5,cc5,hI5,hH5⟩:=OfIn.next (R:=R) (by have:=HZ.out;omega) (by have:=HZ.out;omega) (by have:=HZ.out;omega) (by omega) HIC.out HYB.out HRB.out o5 g5 h5;have ca:=hI5.box.cell 0;have cb:=hI5.lst.cell 0;simp only[List.getElem?_toArray,List.getElem?_cons_zero] at ca cb)
   exact ⟨hH5,.inr ⟨_,rfl,rfl,_,hI5⟩⟩
  ·gi_wp2_with (gi_at_builtin;refine acW (S:=shBy) (Z:=fun g=>(Y g∧¬leads (.slice a9 n9 c9) g)∨g=w.heap.size) (o:=⟨some 17,_,_,_,_,_⟩) byK rfl _ _ rfl w3.heap.size _ (ac2 s i) rfl HROW.out _ (secS s i) rfl HLIT.out hlen hbase ?_;intro v' w5 o5 g5 h5;rw[← hsu] at o5;obtain ⟨a5,c5,e5,_,_⟩:=SE.shape o5.gl;rw[acg] at e5;subst e5;obtain ⟨f5,cc5,hI5,hH5⟩:=OfIn.next (R:=R) (by have:=HZ.out;omega) (by have:=HZ.out;omega) (by have:=HZ.out;omega) (by omega) HIC.out HYB.out HRB.out o5 g5 h5;have ca:=hI5.box.cell 0;have cb:=hI5.lst.cell 0;simp only[List.getElem?_toArray,List.getElem?_cons_zero] at ca cb)
   exact .inl ⟨by omega,_,hI5⟩
 case done=>rintro D Y W hD hYD hYb ⟨h,_⟩ hd;omega
 case stop=>
  rintro D e i Y W hD hYD hYb hi ⟨rfl,o,hI⟩ hd;rename_i Qp Kk hKk
  have hgl:=hI.row.gl;obtain ⟨gb,ob,cb,q,e1,_,cq,rq⟩:=arZ.bs (i:=L) hgl (by rw[acg];omega);rw[acg] at e1;subst e1;obtain ⟨aq,nq,cq',rfl⟩:=aab rq;have c6:=hI.box.cell 0;have c7:=hI.lst.cell 0;simp only[List.getElem?_toArray,List.getElem?_cons_zero] at c6 c7;have e2:bsAt (ac2 s (L+1)) L=secS s L:=aiQ s (by omega);rw[e2] at rq;have hpre:=SE.pre hgl n (by omega);rw[amq s (by omega)] at hpre;have HG:=Lib.hid hpre;have HFR:Hid (Free (fun g=>g<w.heap.size) (.slice (some ⟨gb,ob,none⟩) n cb)):=aaQ (C:=w3.heap.size) (fun g hg=>(hI.row.lt g (by cases hg;rfl)).1) fun g hg=>by have:=HZ.out;omega
  have HR:=Lib.hid rq;have HKW:=Lib.hid hI.kp;have HD:=Lib.hid hd;have i1:¬(n:Int)<0:=by omega
  have i2:(n:Int)≤(cb:Int):=by
   obtain ⟨_,c',e3,h3,_⟩:=SE.shape hgl;rw[acg] at e3 h3;simp only[Value.slice.injEq] at e3;omega
  have i3:(L:Int)<((L+1:Nat):Int):=by omega
  clear hI hgl hpre rq hd e2 hYb hYD;go_wp2;go_region
  go_wp2;have hd2:W.drew.heap[D]?=some (.deferred (some [])):=HD.out;have hst:Step (fun k=>k=D) W.drew (W.drew.putObj D (.deferred none)):=(Step.refl _ _).putObj _ _ (.inr rfl);have hcs:Cs W.drew (W.drew.putObj D (.deferred none)):=hst.cs fun g e hs=>by
   subst e;obtain ⟨_,_,_,h⟩:=hs;rw[hd2] at h;cases h
  have hkd:Kp W W.drew:=(Kp.refl W).drew;have hg9:arZ shBy (W.drew.putObj D (.deferred none)) (.slice (some ⟨gb,ob,none⟩) n cb) (ac2 s n):=arZ.cs (arZ.kp (show arZ shBy W _ _ from HG.out) hkd) hcs;have hr9:=(HR.out.kp hkd).cs hcs;refine ⟨by simp,.inl ⟨_,_,rfl,run_takeDeferred hd2,?_⟩⟩;exact ⟨_,results_tmp2 rfl _ _ _,⟨.slice (some ⟨gb,ob,none⟩) n cb,.slice aq nq cq',rfl,hg9,hr9,HFR.out⟩,Below.trans (HKW.out.trans hkd) (hst.below (HKW.out.trans hkd).size (fun k hk=>by have:=HZ.out;omega))⟩
end Go.Proofs.YthmhklmkgkfcpaaGreatDoor
namespace Go.Proofs.YthmhklmkgkfcpaaGreatDoor
open Go.RowKit
theorem amZ (ar1 n s:Value)(t:List Nod)(K i:Nat)(x:Nat)(w0:World)(hu:WIn w0 ar1 n s t K i)(hx:x<t.length):
  ∃ p,Rd w0 p (ats t x).pub∧∀ W,Kp w0 W→Calls Tryz.prog 103 #[.agg #[ar1,.int .i64 (i:Int),n,s],.int .i64 (x:Int)] W fun e w'=>e=.returned p∧Kp W w':=by
 obtain ⟨au,cu,rfl,p1,s1⟩:=hu.tree.shape;obtain ⟨b,off,rfl,_,hc⟩:=hu.tree.at x hx;obtain ⟨p,q,h,hn⟩:=hc x hx;obtain ⟨an,nn,cn,rfl⟩:=hu.nodes.sl;obtain ⟨as',ns',cs',rfl⟩:=SE.sl hu.steps;refine ⟨p,hn.2.pub,fun W hW=>?_⟩;have K1:Hid (Kp W (W.alloc (.cells #[.slice (some ⟨b,off,none⟩) t.length cu,.int .i64 (i:Int),.slice an nn cn,.slice as' ns' cs'] 95))):=(Kp.refl _).alloc _;have c2:=(hn.kp (hW.trans K1.out)).pubC;obtain ⟨ap,np,cp,rfl⟩:=aab hn.2.pub;have i1:¬(x:Int)<0:=by omega
 have i2:¬(t.length:Int)≤(x:Int):=by omega
 have i3:(x:Int)<(t.length:Int):=by omega
 generalize (ats t x).pub=PUB at *;generalize t.length=N at *;clear hu hc hn;go_enter Tryz.func103,Tryz.ntmps103;go_wp2_with fail;go_ret;exact ⟨rfl,K1.out⟩
theorem Kp.stepOld {Y:Nat→Prop}{w0 A B:World}(h:Kp w0 A)(s:Step Y A B)(hY:∀ g,Y g→w0.heap.size≤g):Kp w0 B:=
 ⟨s.os.trans h.os,s.tape.trans h.tape,s.output.trans h.output,Nat.le_trans h.size s.size,fun q hq=>(s.block q (Nat.lt_of_lt_of_le hq h.size) (fun e=>by have:=hY q e;omega)).trans (h.block q hq)⟩
theorem Step.next {Y:Nat→Prop}{A B C:World}(h:Step Y A B)(s:Step Y B C):Step Y A C:=
 ⟨s.os.trans h.os,s.tape.trans h.tape,s.output.trans h.output,Nat.le_trans h.size s.size,fun q hq hn=>(s.block q (Nat.lt_of_lt_of_le hq h.size) hn).trans (h.block q hq hn)⟩
theorem ahg (ar1 n s q vs vi:Value)(t:List Nod)(K i:Nat)(cov:List Int)(x:Int)(sec info secret:List UInt8)(m gc gs:Nat)(w0 w:World)(h0:Kp w0 w)(hu:WIn w0 ar1 n s t K i)(hq:RI w0 q cov)(hs:RZ (fun g=>g=gc) w vs sec)(hi:Rd w0 vi info)
  (ho:abz w gc gs secret m) (hgc:w0.heap.size≤gc) (hcov:∀ j,j<cov.length→∃ y:Nat,cov.getD j 0=(y:Int)∧y<t.length∧(ats t y).pub.length=32) (hcl:cov.length≤2048) (hm:m≤100000) (h32:secret.length=32) (hs32:sec.length≤1600) (hil:info.length≤1400):
  Calls Tryz.prog 58 #[.agg #[ar1,.int .i64 (i:Int),n,s],.agg #[.int .i64 x,q],vs,vi,.func (.func 99) #[] #[.pointer (some ⟨gc,0,none⟩),.pointer (some ⟨gs,0,none⟩)]] w fun e w'=>
   (∃ v,e=.returned (.tuple #[v,.int .i64 0])∧GZ shSe 92 (fun g=>g<w.heap.size) w' w.heap.size v (abS t secret info sec m cov))∧abz w' gc gs secret (m+cov.length)∧Step (fun g=>g=gc) w w':=by
 have HPUB:=Lib.hid (fun y (hy:y<t.length)=>amZ ar1 n s t K i y w0 hu hy);have HON:=Lib.hid (fun W k (h:abz W gc gs secret k) (hk:k<1000000)=>ajb gc gs k secret W h hk (by omega));have HWR:=Lib.hid (fun W (hW:Kp w0 W) (vp vo:Value) (pub once:List UInt8) (hp:Rd W vp pub) (h:Rd W vo once) (hsW:Rd W vs sec)=>ak8 vp vo vi vs pub once info sec W hp h (hi.kp hW) hsW hil hs32);have HSC:=Lib.hid hs;have HOK:=Lib.hid (fun (pub:List UInt8) k (hp:pub.length=32)=>(aiD (pub:=pub) (once:=ac9 secret k) info sec ⟨ace _ _ _,hp⟩).1);have HWT:=Lib.hid (fun j (hj:j<cov.length)=>amv (t:=t) (secret:=secret) (info:=info) (s:=sec) (n:=m) (j:=j) (l:=cov) hj);have HWE:Hid ((abS t secret info sec m cov).take cov.length=abS t secret info sec m cov):=by unfold Hid;rw[← acf t secret info sec cov m,List.take_length]
 have HCV:=Lib.hid hcov;have HQ:=Lib.hid hq;have HGC:=Lib.hid hgc;obtain ⟨au,nu,cu,rfl⟩:=hu.tree.sl;obtain ⟨an,nn,cn,rfl⟩:=hu.nodes.sl;obtain ⟨as',ns',cs',rfl⟩:=SE.sl hu.steps;obtain ⟨aq,cq,rfl,p1,s1⟩:=hq.shape;obtain ⟨ah,nh,ch,rfl⟩:=aab hs.1;obtain ⟨ai,ni,ci,rfl⟩:=aab hi;obtain ⟨J,hJ⟩:∃ J,cov.length=J:=⟨_,rfl⟩;rw[hJ] at HWT HWE HCV HQ p1 hcl ⊢;have HO:=Lib.hid ho;have H0:=Lib.hid h0;have hgw:Hid (gc<w.heap.size):=(Array.getElem?_eq_some_iff.1 ho.cnt).1;clear hu hq hs hi ho h0 hcov hJ h32 hil hs32 hgc;go_enter Tryz.func58,Tryz.ntmps58;go_wp2_with fail;obtain ⟨w1,hw1⟩:∃ w1,(w.alloc (.cells #[.slice au nu cu,.int .i64 (i:Int),.slice an nn cn,.slice as' ns' cs'] 95)).alloc (.cells #[.int .i64 x,.slice aq J cq] 99)=w1:=⟨_,rfl⟩;have HB:Hid (Bx w1 w.heap.size 95 #[.slice au nu cu,.int .i64 (i:Int),.slice an nn cn,.slice as' ns' cs']):=by unfold Hid;rw[← hw1];exact (Bx.new w _ _).kp ((Kp.refl _).alloc _)
 have K1:Hid (Kp w w1):=by unfold Hid;rw[← hw1];exact ((Kp.refl _).alloc _).alloc _
 rw[hw1];clear hw1;go_loopw[12,21] (fun x12 x21 wr=>∃ j:Nat,j≤J∧x21=.int .i64 (j:Int)∧GZ shSe 92 (fun g=>g<w1.heap.size) wr w1.heap.size x12 ((abS t secret info sec m cov).take j)∧abz wr gc gs secret (m+j)∧Step (fun g=>g=gc) w1 wr) (fun _ x21 _=>(J - (intOf x21).toNat))
 case atStart=>exact ⟨0,Nat.zero_le _,rfl,GZ.nil _ _ _,HO.out.kp K1.out,Step.refl _ _⟩
 case round=>
  obtain ⟨j,hj,rfl,hgz,hon,hst⟩:=hrel;have HI:=Lib.hid (And.intro hgz (And.intro hon hst));have KW:Hid (Kp w0 wr):=Kp.stepOld (H0.out.trans K1.out) hst fun g hg=>by rw[hg];exact HGC.out
  obtain ⟨ax,nx,cx,rfl⟩:=SE.sl hgz.gl;clear hgz hon hst;by_cases hlt:j<J
  ·obtain ⟨gq,oq,rfl,_,hcq⟩:=(HQ.out.kp KW.out).at j hlt
   have c0:=hcq j hlt;obtain ⟨y,hy1,hy2,hy3⟩:=HCV.out j hlt;rw[hy1] at c0;obtain ⟨pv,rp,HPC0⟩:=HPUB.out y hy2;have HPC:=Lib.hid HPC0;have RP:=Lib.hid rp;obtain ⟨ap,np,cp,rfl⟩:=aab rp;have HE0:=Lib.hid (HOK.out (ats t y).pub (m+j) hy3);have HWJ:Hid ((abS t secret info sec m cov).take (j+1)=(abS t secret info sec m cov).take j++[⟨ahs (ats t y).pub (ac9 secret (m+j)),aht (ats t y).pub (ac9 secret (m+j)) info sec⟩]):=by
    have:=HWT.out j hlt;unfold seS at this;rw[hy1,Int.toNat_natCast] at this;exact this
   have i1:IntKind.i64.wrap ((j:Int)+1)=(j:Int)+1:=IntWalk.i64_in _ (by omega);have i3:(j:Int)<(J:Int):=by omega
   have hb:=HB.out;have hbr:Bx wr w.heap.size 95 #[.slice au nu cu,.int .i64 (i:Int),.slice an nn cn,.slice as' ns' cs']:=(HI.out.2.2.block w.heap.size (Array.getElem?_eq_some_iff.1 hb).1 (fun e=>by have:=hgw.out;omega)).trans hb;have e0:=hbr.cell 0;have e1:=hbr.cell 1;have e2:=hbr.cell 2;have e3:=hbr.cell 3;simp only[List.getElem?_toArray,List.getElem?_cons_zero,List.getElem?_cons_succ] at e0 e1 e2 e3;have HTL:Hid (((abS t secret info sec m cov).take j).length+1≤1000000):=by unfold Hid;rw[List.length_take];omega
   generalize hTK:(abS t secret info sec m cov).take j=TK at *;generalize (ats t y).pub=PUB at *;clear hcq hy1 HPC0 rp hTK hb hbr HPUB HCV HOK HWT HWE;go_wp2_with fail;refine (HPC.out wr KW.out).mono ?_;rintro _ wa ⟨rfl,ka⟩;have KA:=Lib.hid ka;clear ka;go_wp2_with (go_at_call 99;refine (HON.out wa (m+j) (HI.out.2.1.kp KA.out) (by omega)).mono ?_;rintro _ wb ⟨⟨v30,rfl,rb,nb⟩,hob,hsb⟩)
   obtain ⟨a30,n30,c30,rfl⟩:=aab rb;have KWB:Hid (Kp w0 wb):=Kp.stepOld (KW.out.trans KA.out) hsb fun g hg=>by rw[hg];exact HGC.out
   have HGB:Hid (GZ shSe 92 (fun g=>g<w1.heap.size) wb w1.heap.size (.slice ax nx cx) TK):=
    (HI.out.1.kp KA.out).step (Y:=fun g=>g=gc) hsb (fun g hg=>.inl (by have:=hgw.out;have:=K1.out.size;omega)) (fun g hg e=>by have:=(HI.out.1.lt g hg).1;have:=hgw.out;have:=K1.out.size;omega)
   have HSW:Hid (Step (fun g=>g=gc) w1 wb):=(HI.out.2.2.next (Step.of_kp KA.out)).next hsb;have HOB:=Lib.hid hob;have HSZ:Hid (w1.heap.size≤wr.heap.size∧wr.heap.size≤wb.heap.size):=⟨HI.out.2.2.size,Nat.le_trans KA.out.size hsb.size⟩;have HLT:Hid (∀ g,(Value.slice ax nx cx).ownBlock=some g→g<wr.heap.size):=fun g hg=>(HI.out.1.lt g hg).2
   refine (HWR.out wb KWB.out _ _ PUB (ac9 secret (m+j)) (RP.out.kp KWB.out) rb (HSC.out.step ((Step.of_kp K1.out).next HSW.out)).1).mono ?_;rintro _ wc ⟨⟨vh,vb,rfl,rh,rb2,nh,nb2⟩,kc⟩;rw[HE0.out];obtain ⟨ah',nh',ch',rfl⟩:=aab rh;obtain ⟨ab',nb',cb',rfl⟩:=aab rb2;have HEL:Hid (shSe.R (fun g=>some g=(Value.slice ax nx cx).ownBlock∨g<w1.heap.size) wc [.slice ah' nh' ch',.slice ab' nb' cb'] ⟨ahs PUB (ac9 secret (m+j)),aht PUB (ac9 secret (m+j)) info sec⟩):=
    ⟨_,_,rfl,⟨rh,aaQ (C:=wb.heap.size) nh fun g hg=>hg.elim (fun h=>by have:=HLT.out g h.symm;have:=HSZ.out;omega) fun h=>by have:=HSZ.out;omega⟩,
     ⟨rb2,aaQ (C:=wb.heap.size) nb2 fun g hg=>hg.elim (fun h=>by have:=HLT.out g h.symm;have:=HSZ.out;omega) fun h=>by have:=HSZ.out;omega⟩⟩
   have HG2:=Lib.hid (HGB.out.kp kc);have KC:=Lib.hid kc;have HBS:Hid (w1.heap.size≤wc.heap.size):=by have:=HSZ.out;have:=kc.size;unfold Hid;omega
   clear rh rb2 nh nb2 kc rb nb hob hsb e0 e1 e2 e3 c0;go_wp2_with (at_builtin;refine aaK (S:=shSe) (Z:=fun g=>g<w1.heap.size) (o:=⟨some 45,_,_,_,_,_⟩) seK rfl _ _ rfl w1.heap.size _ TK rfl (HG2.out.kp ((Kp.refl _).alloc _)) _ [_] rfl (SE.litZ (S:=shSe) 92 HEL.out rfl) (by exact HTL.out) (Nat.le_trans HBS.out (by simp)) ?_;intro vF wh oh gh qh)
   rw[← HWJ.out] at oh;have HFIN:Hid (abz wh gc gs secret (m+(j+1))∧Step (fun g=>g=gc) w1 wh):=by
    have hs1:Step (fun g=>g=gc) w1 wh:=((HSW.out.next (Step.of_kp KC.out)).next (Step.of_kp ((Kp.refl _).alloc _))).then gh fun g hg=>.inl (HG2.out.lt g hg).1
    have ho:=(HOB.out.kp KC.out).kp ((Kp.refl wc).alloc (.cells #[.slice ah' nh' ch',.slice ab' nb' cb'] 92));have l1:gc<w1.heap.size:=by have:=hgw.out;have:=K1.out.size;omega
    obtain ⟨_,⟨v,h2,h3⟩,h4⟩:=HO.out;have hsw:Step (fun g=>g=gc) w wh:=(Step.of_kp K1.out).next hs1;exact ⟨⟨ho.cnt.grown gh (fun e=>by have:=(HG2.out.lt _ e.symm).1;omega),⟨v,(hsw.block gs (Array.getElem?_eq_some_iff.1 h2).1 (fun e=>h4 e.symm)).trans h2,h3.step hsw⟩,h4⟩,hs1⟩
   go_roundw
   case rel=>exact ⟨j+1,by omega,by first | rfl | (rw[i1];rfl),oh,HFIN.out.1,HFIN.out.2⟩
   case measure=>simp[intOf];omega
  ·obtain rfl:j=J:=by omega
   have h1:¬(j:Int)<(j:Int):=by omega
   have hgz:=HI.out.1;rw[HWE.out] at hgz;have HF:=Lib.hid (And.intro ((hgz.solidly fun g hg=>.inr (.inl (show g<w1.heap.size from Nat.lt_of_lt_of_le hg K1.out.size))).mono K1.out.size) (And.intro HI.out.2.1 ((Step.of_kp K1.out).next HI.out.2.2)));clear hgz HPUB HCV HOK HWT HWE;go_wp2_with fail;go_ret2;exact ⟨⟨_,rfl,HF.out.1⟩,HF.out.2.1,HF.out.2.2⟩
end Go.Proofs.YthmhklmkgkfcpaaGreatDoor
namespace Go.Proofs.YthmhklmkgkfcpaaGreatDoor
open Go.RowKit Go.Maps
theorem akl {l:List Nat}{k j:Nat}:(l.drop k).getD j 0=l.getD (k+j) 0:=by
 rw[List.getD_eq_getElem?_getD,List.getD_eq_getElem?_getD,List.getElem?_drop]
theorem ahi (ar1 n s x y vs:Value)(t:List Nod)(K i k m cnt:Nat)(S:Sd→Prop)(sec:List UInt8)(p:Pa)(w:World)(hu:WIn w ar1 n s t K i)(hm:KM Tryz.prog 3 w m cnt S)(hp:PIn w x y p)(hv:Rd w vs sec)(h32:sec.length=32)
  (hk:k<(ixS t i K).length) (hM:(ixS t i K).length≤10) (hpl:p.step.length=(ixS t i K).length) (hcnt:cnt≤100000) (hd:∀ a,S a→∀ z∈(aac t i K).drop k,a.node≠((z:Nat):Int)) (hlt:∀ z∈aac t i K,z≤100000):
  Calls Tryz.prog 71 #[.agg #[ar1,.int .i64 (i:Int),n,s],.int .i64 (k:Int),.map (some m),vs,.agg #[x,y]] w fun e w'=>
   (∃ r E,e=.returned (.tuple #[r,.int .i64 E])∧((ad4 p.step sec k (ixS t i K).length∧E=0∧Rd w' r (secS sec ((ixS t i K).length - k))∧KM Tryz.prog 3 w' m (cnt+((ixS t i K).length - k)) (hldS S sec ((aac t i K).drop k) ((ixS t i K).length - k)))∨(¬ad4 p.step sec k (ixS t i K).length∧E=5∧Rd w' r [])))∧Step (fun g=>g=m) w w':=by
 have hsl:=(aaE t i K).1;have hst:=abQ t i K;have HOF:=Lib.hid (fun W (hW:Kp w W)=>aef vs sec ((ixS t i K).length - k) W (hv.kp hW) h32 (by omega));have hnd:((aac t i K).drop k).Nodup:=(ab0 t i K).sublist (List.drop_sublist _ _);have hxl:((aac t i K).drop k).length=(ixS t i K).length - k:=by rw[List.length_drop,hsl]
 have HSU:=Lib.hid (fun j (h:j<(ixS t i K).length - k) (z:Sd)=>aka (own:=S) (s:=sec) (n:=j) hnd hd (by rw[hxl];exact h) z);have HS0:=Lib.hid (fun z=>aj9 (own:=S) (s:=sec) (xs:=(aac t i K).drop k) z);have HSP:=Lib.hid (fun a (h:a<(ixS t i K).length)=>aeI (t:=t) (i:=i) (m:=K) h);have HXB:Hid (∀ j,j<(ixS t i K).length - k→((aac t i K).drop k).getD j 0=(aac t i K).getD (k+j) 0∧(aac t i K).getD (k+j) 0≤100000):=fun j hj=>⟨akl,hlt _ (by rw[List.getD_eq_getElem?_getD,List.getElem?_eq_getElem (by omega)];exact List.getElem_mem _)⟩
 have HHV:Hid (ad4 p.step sec k (ixS t i K).length↔∀ j,j<(ixS t i K).length - k→pubB (aaZ sec j)=(stAt p.step (k+j)).pub):=⟨fun h j hj=>h j (by omega),fun h j hj=>h j (by omega)⟩;have HPB:Hid (∀ j,pubR (aaZ sec j)=pubB (aaZ sec j)):=fun j=>(abE (aej _ abY)).2
 have HSD:Hid (∀ j,derB (secS sec j) abY=aaZ sec j):=fun j=>rfl
 have HLS:Hid (afY sec ((ixS t i K).length - k)=secS sec ((ixS t i K).length - k)):=by unfold Hid afY;rw[if_neg (by omega)]
 have HEA:=Lib.hid (fun j (h:j<(ixS t i K).length - k)=>aiQ sec h);have HEL:=Lib.hid (acg sec ((ixS t i K).length - k));have HSO:=Lib.hid (fun W (x:Int) (q v:Value) (c:List Int) j (hq:RI W q c) (hv:Rd W v (secS sec j))=>aeu x q v c (secS sec j) W hq hv (by rw[acS h32 j];omega));have HPU:=Lib.hid (fun W (ar1:Value) j (hu:Rd W ar1 (aaZ sec j))=>aer ar1 (aaZ sec j) W hu);simp only[HPB.out] at HPU;simp only[HSD.out] at HSO;have HBE:=Lib.hid (fun W (ar1 v:Value) (l m:List UInt8) (hu:Rd W ar1 l) (hv:Rd W v m)=>abf ar1 v l m W hu hv);have HWS:=Lib.hid hu.steps;have HST:=Lib.hid hp.step;have HM:=Lib.hid hm;obtain ⟨au,nu,cu,rfl⟩:=hu.tree.sl;obtain ⟨an,nn,cn,rfl⟩:=hu.nodes.sl;obtain ⟨as',cs',rfl,q5,q6⟩:=SE.shape hu.steps;obtain ⟨ap,np,cp,rfl⟩:=aab hp.pub;obtain ⟨a6,c6,rfl,q9,q10⟩:=SE.shape hp.step;obtain ⟨gs,os,rfl,_,_⟩:=SE.at hu.steps (by omega);obtain ⟨gp,op,rfl,_,_⟩:=SE.at hp.step (by omega);obtain ⟨av,nv,cv,rfl⟩:=aab hv;rw[hst] at q5 HWS ⊢;rw[hpl] at q9 HST ⊢;generalize ad4 p.step sec k (ixS t i K).length=HP at *;generalize hldS S sec ((aac t i K).drop k)=HL at *;generalize (aac t i K).drop k=XS at *;generalize aac t i K=ST at *;have HLP:=Lib.hid hpl;have HLW:=Lib.hid hst;generalize (ixS t i K).length=M at *;obtain ⟨J,hJ⟩:∃ J,M - k=J:=⟨_,rfl⟩;have hMk:M=k+J:=by omega
 have hJ0:0<J∧J≤10:=by omega
 rw[hJ] at HOF HSU HXB HHV HLS HEA HEL ⊢;have i2:IntKind.i64.wrap ((M:Int) - (k:Int))=(J:Int):=by rw[IntWalk.i64_in _ (by omega)];omega
 unfold maxLen at q6 q10;have hkM:¬(M:Int)<(k:Int):=by omega
 have hcM:(M:Int)≤(cs':Int):=by omega
 have HMK:=Lib.hid hMk;clear hu hm hp hv h32 hpl hd hlt hsl hst hnd hxl hMk;go_enter Tryz.func71,Tryz.ntmps71;go_wp2_with fail;obtain ⟨w1,hw1⟩:∃ w1,(w.alloc (.cells #[.slice au nu cu,.int .i64 (i:Int),.slice an nn cn,.slice (some ⟨gs,os,none⟩) M cs'] 95)).alloc (.cells #[.slice ap np cp,.slice (some ⟨gp,op,none⟩) M c6] 27)=w1:=⟨_,rfl⟩;have HB:Hid (Bx w1 w.heap.size 95 #[.slice au nu cu,.int .i64 (i:Int),.slice an nn cn,.slice (some ⟨gs,os,none⟩) M cs']):=by unfold Hid;rw[← hw1];exact (Bx.new w _ _).kp ((Kp.refl _).alloc _)
 have HBP:Hid (Bx w1 (w.heap.size+1) 27 #[.slice ap np cp,.slice (some ⟨gp,op,none⟩) M c6]):=by
  unfold Hid;have:=Bx.new (w.alloc (.cells #[.slice au nu cu,.int .i64 (i:Int),.slice an nn cn,.slice (some ⟨gs,os,none⟩) M cs'] 95)) 27 #[.slice ap np cp,.slice (some ⟨gp,op,none⟩) M c6];rw[World.size_alloc] at this;rw[← hw1];exact this
 have K1:Hid (Kp w w1):=by unfold Hid;rw[← hw1];exact ((Kp.refl _).alloc _).alloc _
 rw[hw1];clear hw1;refine (HOF.out w1 K1.out).mono ?_;rintro _ w2 ⟨⟨o2,r2,rfl,hg2,hr2,_⟩,k2⟩;obtain ⟨ae,ce,rfl,q1,q2⟩:=SE.shape hg2;rw[HEL.out] at hg2 q1 ⊢;obtain ⟨ge,oe,rfl,_,_⟩:=SE.at hg2 hJ0.1;obtain ⟨ar,nr,cr,rfl⟩:=aab hr2;rw[HLS.out] at hr2;have HG2:=Lib.hid hg2;have HR2:=Lib.hid hr2;have K2:=Lib.hid k2;have KW2:=Lib.hid (K1.out.trans k2);have HM2:=Lib.hid (HM.out.kp KW2.out);have d3:=(HB.out.kp k2).cell 3;simp only[List.getElem?_toArray,List.getElem?_cons_zero,List.getElem?_cons_succ] at d3;clear hg2 hr2 k2 HOF;go_wp2_with fail;have HNS:Hid (¬abw w2 m):=HM2.out.nosolid;go_loopw[31] (fun z wr=>∃ j:Nat,j≤J∧z=.int .i64 (j:Int)∧KM Tryz.prog 3 wr m (cnt+j) (HL j)∧(∀ a,a<j→pubB (aaZ sec a)=(stAt p.step (k+a)).pub)∧Step (fun g=>g=m) w2 wr) (fun z _=>(J - (intOf z).toNat))
 case atStart=>exact ⟨0,Nat.zero_le _,rfl,HM2.out.congr fun z=>HS0.out z,fun a h=>by omega,Step.refl _ _⟩
 case round=>
  obtain ⟨j,hj,rfl,hkm,hpre,hstp⟩:=hrel;have HKM:=Lib.hid hkm;have HPR:=Lib.hid hpre;have HSTP:=Lib.hid hstp;have HCS:Hid (Cs w2 wr):=hstp.cs fun g e=>by subst e;exact HNS.out
  clear hkm hpre hstp d3;by_cases hlt:j<J
  ·obtain ⟨b1,o1,y1,q,e1,_,c0,c1,rq⟩:=arZ.sp (i:=k+j) (arZ.cs (arZ.kp HWS.out KW2.out) HCS.out) (by rw[HLW.out];have:=HMK.out;omega)
   rw[HLW.out] at e1;simp only[Value.slice.injEq,Option.some.injEq,Addr.mk.injEq,and_true] at e1;obtain ⟨⟨rfl,rfl⟩,_,rfl⟩:=e1;rw[HSP.out (k+j) (by have:=HMK.out;omega)] at c0 rq;dsimp only at c0 rq
   obtain ⟨x1,x2⟩:=HXB.out j hlt;rw[← x1] at c0 x2;rw[show os+(k+j)*2=os+k*2+j*2 by omega] at c0 c1;obtain ⟨b2,o2,y2,ve,e2,_,c2,rv⟩:=arZ.bs (i:=j) (arZ.cs HG2.out HCS.out) (by rw[HEL.out];exact hlt);rw[HEL.out] at e2;simp only[Value.slice.injEq,Option.some.injEq,Addr.mk.injEq,and_true] at e2;obtain ⟨⟨rfl,rfl⟩,_,rfl⟩:=e2;have hea:bsAt (ac2 sec J) j=secS sec j:=HEA.out j hlt;rw[hea] at rv;obtain ⟨b3,o3,y3,pv,qv,e3,_,c3,_,rp,_⟩:=TL11.node (i:=k+j) (arZ.cs (arZ.kp HST.out KW2.out) HCS.out) (by rw[HLP.out];have:=HMK.out;omega);rw[HLP.out] at e3;simp only[Value.slice.injEq,Option.some.injEq,Addr.mk.injEq,and_true] at e3;obtain ⟨⟨rfl,rfl⟩,_,rfl⟩:=e3;have HSUJ:=Lib.hid (HSU.out j hlt);have HPRE:Hid (pubB (aaZ sec j)=(stAt p.step (k+j)).pub→∀ a,a<j+1→pubB (aaZ sec a)=(stAt p.step (k+a)).pub):=fun h a ha=>by
    rcases Nat.lt_or_eq_of_le (Nat.lt_succ_iff.1 ha) with h3 | h3
    ·exact HPR.out a h3
    ·rw[h3];exact h
   have HNO:Hid (¬pubB (aaZ sec j)=(stAt p.step (k+j)).pub→¬HP):=fun h hp=>h (HHV.out.1 hp j hlt)
   obtain ⟨X,hX⟩:∃ X,XS.getD j 0=X:=⟨_,rfl⟩;rw[hX] at c0 x2 HSUJ;obtain ⟨PUB,hPUB⟩:∃ P,(stAt p.step (k+j)).pub=P:=⟨_,rfl⟩;rw[hPUB] at rp HPRE HNO;obtain ⟨aq,nq,cq,rfl⟩:=rq.sl;obtain ⟨a9,n9,c9,rfl⟩:=aab rv;obtain ⟨ap7,np7,cp7,rfl⟩:=aab rp;obtain ⟨CV,hCV⟩:∃ C,(whoN t i K).getD (k+j) []=C:=⟨_,rfl⟩;rw[hCV] at rq;have i1:IntKind.i64.wrap ((j:Int)+1)=(j:Int)+1:=IntWalk.i64_in _ (by omega);have i4:IntKind.i64.wrap ((k:Int)+(j:Int))=(k:Int)+(j:Int):=IntWalk.i64_in _ (by have:=HMK.out;omega);have i6:¬(k:Int)+(j:Int)<0:=by omega
   have i7:((k:Int)+(j:Int)).toNat=k+j:=by omega
   have i8:(0:Int)≤(k:Int)+(j:Int):=by omega
   have i3:(j:Int)<(J:Int):=by omega
   have i5:(k:Int)+(j:Int)<(M:Int):=by have:=HMK.out;omega
   have hkey:Go.keyOf Tryz.prog 3 (.int .i64 (X:Int))=some (.int .i64 (X:Int)):=keyOf_int_mk Tryz.underlying3 (WalkArith.wf_i64 (by omega));have hkey2:=hkey;have hcn:cnt+j<maxLen:=by unfold maxLen;omega
   obtain ⟨WQ,hWQ⟩:∃ x,wr.alloc (.cells #[.int .i64 (X:Int),.slice aq nq cq] 99)=x:=⟨_,rfl⟩;have KQ:Hid (Kp wr WQ):=by unfold Hid;rw[← hWQ];exact (Kp.refl _).alloc _
   have hbq:Bx WQ wr.heap.size 99 #[.int .i64 (X:Int),.slice aq nq cq]:=by rw[← hWQ];exact Bx.new wr _ _
   have HBQ:=Lib.hid hbq;have CQ:Hid (Cs wr WQ):=KQ.out.cs;have CD:Hid (Cs WQ WQ.drew):=(Kp.refl WQ).drew.cs;have HS5:Hid (∀ W,Cs WQ W→W.cell? ⟨wr.heap.size,0,none⟩=some (.int .i64 (X:Int))∧W.cell? ⟨wr.heap.size,1,none⟩=some (.slice aq nq cq)∧W.cell? ⟨ge,oe+j,none⟩=some (.slice a9 n9 c9)):=fun W hW=>
    ⟨(HBQ.out.cs hW).cell 0,(HBQ.out.cs hW).cell 1,(CQ.out.trans hW).cell c2⟩
   have arW:=Lib.hid (HS5.out _ CD.out);have hbp:=HBP.out.kp K2.out;have HCP:Hid (∀ W,Cs WQ W→W.cell? ⟨w.heap.size+1,1,none⟩=some (.slice (some ⟨gp,op,none⟩) M c6)∧W.cell? ⟨gp,op+(k+j)*2,none⟩=some (.slice ap7 np7 cp7)):=fun W hW=>
    ⟨((hbp.cs HCS.out).cs (CQ.out.trans hW)).cell 1,(CQ.out.trans hW).cell c3⟩
   have HRQ:=Lib.hid (fun W (hW:Cs WQ W)=>rq.cs (CQ.out.trans hW));have HRV:=Lib.hid (fun W (hW:Cs WQ W)=>rv.cs (CQ.out.trans hW));have HRP:=Lib.hid (fun W (hW:Cs WQ W)=>rp.cs (CQ.out.trans hW));have HMQ:=Lib.hid (HKM.out.kp KQ.out);have STQ:Hid (Step (fun g=>g=m) w2 WQ):=HSTP.out.next (Step.of_kp KQ.out);clear hbq hbp hX hPUB hCV hea x1 rq rv rp HSU HSP HXB HHV HPB HSD HEA HWS HST HPR c2 c3 HKM;by_cases heq:pubB (aaZ sec j)=PUB
   ·have HBJ:=Lib.hid (fun W (ar1 v:Value) (hu:Rd W ar1 (pubB (aaZ sec j))) (hv:Rd W v PUB)=>HBE.out W ar1 v _ _ hu hv)
    rw[decide_eq_true heq] at HBJ;clear HBE;go_wp2_with fail;try rw[hWQ]
    go_region_held3 (fun W=>W.cell? ⟨wr.heap.size,0,none⟩=some (.int .i64 (X:Int))∧W.cell? ⟨wr.heap.size,1,none⟩=some (.slice aq nq cq)∧W.cell? ⟨ge,oe+j,none⟩=some (.slice a9 n9 c9))
     (first | with_reducible exact arW.out | with_reducible exact S5.out | with_reducible exact S6.out)
     (first
      | (go_at_call 59;refine (HSO.out _ (X:Int) _ _ _ j (HRQ.out _ CD.out) (HRV.out _ CD.out)).mono ?_;rintro _ w5 ⟨⟨v5,rfl,r5,nw5⟩,k5⟩;obtain ⟨a5,n5,c5,rfl⟩:=aab r5;have C5:Hid (Cs WQ w5):=CD.out.trans k5.cs;have S5:=Lib.hid (HS5.out _ C5.out);have HM5:=Lib.hid (HMQ.out.kp ((Kp.refl WQ).drew.trans k5));have SD5:Hid (SdIn w5 (.agg #[.int .i64 (X:Int),.slice a5 n5 c5]) ⟨(X:Int),aaZ sec j⟩):=⟨_,rfl,r5⟩;have ST5:Hid (Step (fun g=>g=m) w2 w5):=STQ.out.next (Step.of_kp ((Kp.refl WQ).drew.trans k5));obtain ⟨w6,hrun6,hk6,hg6⟩:=ain (e:=90) 103 abg Tryz.underlying103 HM5.out hcn ⟨(X:Int),aaZ sec j⟩ _ hkey SD5.out;dsimp only at hrun6;have HK6:=Lib.hid hk6;have C6:Hid (Cs WQ w6):=C5.out.trans (Cs.grown hg6 HM5.out.nosolid);have S6:=Lib.hid (HS5.out _ C6.out);have G6:Hid (Step (fun g=>g=m) w2 w6):=ST5.out.then hg6 (fun g hg=>by cases hg;exact .inr rfl)))
    have HK7:Hid (KM Tryz.prog 3 w6 m (cnt+(j+1)) (HL (j+1))):=HK6.out.congr fun y=>HSUJ.out y
    have hin7:HL (j+1) ⟨(X:Int),aaZ sec j⟩:=(HSUJ.out _).2 (.inl rfl);have zs:=ab4 w6.drew;have HKD:=Lib.hid (HK7.out.kp (Kp.refl w6).drew);have hfd:=adD (X:Int);obtain ⟨qd,hrun7,hqd⟩:=afC (e:=90) 103 abg Tryz.underlying103 zs HKD.out ⟨(X:Int),aaZ sec j⟩ hin7 hkey2;obtain ⟨aqd,nqd,cqd,rfl⟩:=aab hqd;dsimp only [sdV] at hrun7
    obtain ⟨g0,_,_⟩:=S6.out;have HS7:Hid (∀ W,Cs w6 W→W.cell? ⟨wr.heap.size,0,none⟩=some (.int .i64 (X:Int))∧W.cell? ⟨w.heap.size+1,1,none⟩=some (.slice (some ⟨gp,op,none⟩) M c6)∧W.cell? ⟨gp,op+(k+j)*2,none⟩=some (.slice ap7 np7 cp7)):=fun W hW=>⟨hW.cell S6.out.1,HCP.out _ (C6.out.trans hW)⟩
    have C7:Hid (Cs w6 w6.drew):=(Kp.refl w6).drew.cs;have S7:=Lib.hid (HS7.out _ C7.out);clear arW S5 S6 HM5 SD5 ST5 HSO hkey g0 HK6 hrun6;go_wp2_with fail;go_region_held3 (fun W=>W.cell? ⟨wr.heap.size,0,none⟩=some (.int .i64 (X:Int))∧W.cell? ⟨w.heap.size+1,1,none⟩=some (.slice (some ⟨gp,op,none⟩) M c6)∧W.cell? ⟨gp,op+(k+j)*2,none⟩=some (.slice ap7 np7 cp7))
     (first | with_reducible exact S7.out | with_reducible exact S8.out | with_reducible exact S9.out)
     (first
      | (go_at_call 52;refine (HBJ.out _ _ _ R8.out (HRP.out _ (C6.out.trans C8.out))).mono ?_;rintro _ w9 ⟨rfl,k9⟩;have C9:=Lib.hid (C8.out.trans k9.cs);have S9:=Lib.hid (HS7.out _ C9.out);have K9:=Lib.hid (K8.out.trans k9))
      | (go_at_call 55;refine (HPU.out _ _ j hqd).mono ?_;rintro _ w8 ⟨⟨v8,rfl,r8,nw8⟩,k8⟩;obtain ⟨a8,n8,c8,rfl⟩:=aab r8;have R8:=Lib.hid r8;have K8:Hid (Kp w6 w8):=(Kp.refl w6).drew.trans k8;have C8:=Lib.hid (K8.out.cs);have S8:=Lib.hid (HS7.out _ C8.out)))
    have KF:=Lib.hid (HK7.out.kp K9.out);have GF:Hid (Step (fun g=>g=m) w w9):=(Step.of_kp KW2.out).next (G6.out.next (Step.of_kp K9.out));have GF2:Hid (Step (fun g=>g=m) w2 w9):=G6.out.next (Step.of_kp K9.out);clear S7 S8 S9 HKD zs HBJ HPU R8 hrun7 hqd;go_wp2_with fail;go_roundw
    case rel=>exact ⟨j+1,by omega,by first | rfl | (rw[i1];rfl),KF.out,HPRE.out heq,GF2.out⟩
    case measure=>simp[intOf];omega
   ·have HBJ:=Lib.hid (fun W (ar1 v:Value) (hu:Rd W ar1 (pubB (aaZ sec j))) (hv:Rd W v PUB)=>HBE.out W ar1 v _ _ hu hv)
    rw[decide_eq_false heq] at HBJ;clear HBE;go_wp2_with fail;try rw[hWQ]
    go_region_held3 (fun W=>W.cell? ⟨wr.heap.size,0,none⟩=some (.int .i64 (X:Int))∧W.cell? ⟨wr.heap.size,1,none⟩=some (.slice aq nq cq)∧W.cell? ⟨ge,oe+j,none⟩=some (.slice a9 n9 c9))
     (first | with_reducible exact arW.out | with_reducible exact S5.out | with_reducible exact S6.out)
     (first
      | (go_at_call 59;refine (HSO.out _ (X:Int) _ _ _ j (HRQ.out _ CD.out) (HRV.out _ CD.out)).mono ?_;rintro _ w5 ⟨⟨v5,rfl,r5,nw5⟩,k5⟩;obtain ⟨a5,n5,c5,rfl⟩:=aab r5;have C5:Hid (Cs WQ w5):=CD.out.trans k5.cs;have S5:=Lib.hid (HS5.out _ C5.out);have HM5:=Lib.hid (HMQ.out.kp ((Kp.refl WQ).drew.trans k5));have SD5:Hid (SdIn w5 (.agg #[.int .i64 (X:Int),.slice a5 n5 c5]) ⟨(X:Int),aaZ sec j⟩):=⟨_,rfl,r5⟩;have ST5:Hid (Step (fun g=>g=m) w2 w5):=STQ.out.next (Step.of_kp ((Kp.refl WQ).drew.trans k5));obtain ⟨w6,hrun6,hk6,hg6⟩:=ain (e:=90) 103 abg Tryz.underlying103 HM5.out hcn ⟨(X:Int),aaZ sec j⟩ _ hkey SD5.out;dsimp only at hrun6;have HK6:=Lib.hid hk6;have C6:Hid (Cs WQ w6):=C5.out.trans (Cs.grown hg6 HM5.out.nosolid);have S6:=Lib.hid (HS5.out _ C6.out);have G6:Hid (Step (fun g=>g=m) w2 w6):=ST5.out.then hg6 (fun g hg=>by cases hg;exact .inr rfl)))
    have HK7:Hid (KM Tryz.prog 3 w6 m (cnt+(j+1)) (HL (j+1))):=HK6.out.congr fun y=>HSUJ.out y
    have hin7:HL (j+1) ⟨(X:Int),aaZ sec j⟩:=(HSUJ.out _).2 (.inl rfl);have zs:=ab4 w6.drew;have HKD:=Lib.hid (HK7.out.kp (Kp.refl w6).drew);have hfd:=adD (X:Int);obtain ⟨qd,hrun7,hqd⟩:=afC (e:=90) 103 abg Tryz.underlying103 zs HKD.out ⟨(X:Int),aaZ sec j⟩ hin7 hkey2;obtain ⟨aqd,nqd,cqd,rfl⟩:=aab hqd;dsimp only [sdV] at hrun7
    obtain ⟨g0,_,_⟩:=S6.out;have HS7:Hid (∀ W,Cs w6 W→W.cell? ⟨wr.heap.size,0,none⟩=some (.int .i64 (X:Int))∧W.cell? ⟨w.heap.size+1,1,none⟩=some (.slice (some ⟨gp,op,none⟩) M c6)∧W.cell? ⟨gp,op+(k+j)*2,none⟩=some (.slice ap7 np7 cp7)):=fun W hW=>⟨hW.cell S6.out.1,HCP.out _ (C6.out.trans hW)⟩
    have C7:Hid (Cs w6 w6.drew):=(Kp.refl w6).drew.cs;have S7:=Lib.hid (HS7.out _ C7.out);clear arW S5 S6 HM5 SD5 ST5 HSO hkey g0 HK6 hrun6;go_wp2_with fail;go_region_held3 (fun W=>W.cell? ⟨wr.heap.size,0,none⟩=some (.int .i64 (X:Int))∧W.cell? ⟨w.heap.size+1,1,none⟩=some (.slice (some ⟨gp,op,none⟩) M c6)∧W.cell? ⟨gp,op+(k+j)*2,none⟩=some (.slice ap7 np7 cp7))
     (first | with_reducible exact S7.out | with_reducible exact S8.out | with_reducible exact S9.out)
     (first
      | (go_at_call 52;refine (HBJ.out _ _ _ R8.out (HRP.out _ (C6.out.trans C8.out))).mono ?_;rintro _ w9 ⟨rfl,k9⟩;have C9:=Lib.hid (C8.out.trans k9.cs);have S9:=Lib.hid (HS7.out _ C9.out);have K9:=Lib.hid (K8.out.trans k9))
      | (go_at_call 55;refine (HPU.out _ _ j hqd).mono ?_;rintro _ w8 ⟨⟨v8,rfl,r8,nw8⟩,k8⟩;obtain ⟨a8,n8,c8,rfl⟩:=aab r8;have R8:=Lib.hid r8;have K8:Hid (Kp w6 w8):=(Kp.refl w6).drew.trans k8;have C8:=Lib.hid (K8.out.cs);have S8:=Lib.hid (HS7.out _ C8.out)))
    have KF:=Lib.hid (HK7.out.kp K9.out);have GF:Hid (Step (fun g=>g=m) w w9):=(Step.of_kp KW2.out).next (G6.out.next (Step.of_kp K9.out));have GF2:Hid (Step (fun g=>g=m) w2 w9):=G6.out.next (Step.of_kp K9.out);clear S7 S8 S9 HKD zs HBJ HPU R8 hrun7 hqd;go_wp2_with fail;go_ret2;exact ⟨⟨_,_,rfl,.inr ⟨HNO.out heq,rfl,aaM _⟩⟩,GF.out⟩
  ·obtain rfl:j=J:=by omega
   have h1:¬(j:Int)<(j:Int):=by omega
   have HFIN:Hid (HP∧Rd wr (.slice ar nr cr) (secS sec j)∧KM Tryz.prog 3 wr m (cnt+j) (HL j)∧Step (fun g=>g=m) w wr):=⟨HHV.out.2 HPR.out,HR2.out.cs HCS.out,HKM.out,(Step.of_kp KW2.out).next HSTP.out⟩;clear HSU HSP HXB HHV HPB HSD HEA HWS HST HPR HKM;go_wp2_with fail;go_ret2;exact ⟨⟨_,_,rfl,.inl ⟨HFIN.out.1,rfl,HFIN.out.2.1,HFIN.out.2.2.1⟩⟩,HFIN.out.2.2.2⟩
end Go.Proofs.YthmhklmkgkfcpaaGreatDoor
