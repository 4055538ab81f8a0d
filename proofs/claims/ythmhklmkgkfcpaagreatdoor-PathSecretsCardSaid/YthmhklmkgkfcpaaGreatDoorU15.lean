import Derived.Test.YthmhklmkgkfcpaaGreatDoorU4
import Derived.Test.YthmhklmkgkfcpaaGreatDoorU14
import Derived.WalkMore
set_option linter.unusedVariables false
set_option linter.unusedSimpArgs false
set_option maxHeartbeats 8000000
set_option maxRecDepth 100000
namespace Go.Proofs.YthmhklmkgkfcpaaGreatDoor
open Go.RowKit Go.Shelf
attribute [local go_sem] Oper.semAt_some
theorem One.step {T:TypeId}{Y:Nat→Prop}{w w':World}{p:Nat}{v:Value}(h:One T w p v)(k:Step Y w w')(hx:¬Y p):One T w' p v:=(k.block p h.lt hx).trans h
theorem One.held {T:TypeId}{Y:Nat→Prop}{w w':World}{p:Nat}{v:Value}(h:One T w p v)(k:Held Y w w')(hx:Y p):One T w' p v:=(k.block p h.lt hx).trans h
theorem Ow.lt {e:TypeId}{A:World}{B:Nat}{v:Value}{l:List UInt8}(h:Ow e A B v l):∀ g,v.ownBlock=some g→g<A.heap.size:=fun g hg=>(World.ownsRow.lt h g hg).2
theorem Rd.held {R:Nat→Prop}{A B:World}{v:Value}{l:List UInt8}(h:Rd A v l)(hs:Held R A B)(hx:∀ b o n c,v=.slice (some ⟨b,o,none⟩) n c→R b):Rd B v l:=by
 obtain ⟨a,c,rfl,h1,h2,h3,h4⟩:=h;refine ⟨a,c,rfl,h1,h2,h3,fun x hx' i hi=>?_⟩;have hc:=h4 x hx' i hi;subst hx';obtain ⟨b,o,spot⟩:=x;have hsp:=World.cell?_spot (h4 _ rfl 0 (by omega));have hsp':spot=none:=by simpa [Addr.add] using hsp
 subst hsp';exact hs.cell hc (by
  have:((⟨b,o,none⟩:Addr).add i).block=b:=by unfold Addr.add;split <;> rfl
  rw[this];exact hx b o _ c rfl)
theorem acM {e:TypeId}{Y:Nat→Prop}{A A':World}{b g n c k:Nat}{xs:List Value}(h:A.ownsRow b e 1 (.slice (some ⟨g,0,none⟩) n c) k xs)(hs:Step Y A A')(ho:¬Y g):A'.ownsRow b e 1 (.slice (some ⟨g,0,none⟩) n c) k xs:=by
 refine ⟨h.1,?_⟩;rcases h.2 with ⟨hn,_⟩ | ⟨g',cap,cur,e',hb,hg,rest⟩
 ·cases hn
 ·have e2:g=g':=by simpa [Value.ownBlock] using congrArg Value.ownBlock e'
  subst e2;exact .inr ⟨g,cap,cur,e',hb,(hs.block g (Array.getElem?_eq_some_iff.1 hg).1 ho).trans hg,rest⟩
theorem Ow.kp' {e:TypeId}{A A':World}{b k:Nat}{v:Value}{xs:List Value}(h:A.ownsRow b e 1 v k xs)(hs:Kp A A'):A'.ownsRow b e 1 v k xs:=by
 refine ⟨h.1,?_⟩;rcases h.2 with hn | ⟨g,cap,cur,rfl,hb,hg,rest⟩
 ·exact .inl hn
 ·exact .inr ⟨g,cap,cur,rfl,hb,(hs.block g (Array.getElem?_eq_some_iff.1 hg).1).trans hg,rest⟩
theorem aju (w:World)(T:TypeId)(arO:Value):∀ j v,[arO][j]?=some v→(w.alloc (.cells #[arO] T)).cell? ((⟨w.heap.size,0,none⟩:Addr).add j)=some v:=by
 intro j v h
 cases j with
 | zero=>simp at h;subst h;exact (One.new T w arO).cell
 | succ j=>simp at h
theorem aeL {T:TypeId}{w w1 w2:World}{p g:Nat}{v:Value}(k:Kp w w1)(hg:w1.grownBy w2 (some g))(h:One T w p v)(hp:p≠g):One T w2 p v:=
 (hg.block p (h.kp k).lt (fun e=>hp (by cases e;rfl))).trans (h.kp k)
theorem anA (n N:Nat)(B:Nat→List UInt8)(gf:Nat)(lb:Array Value)(R:Nat→Prop)(w:World)(hB:∀ i,(B i).length=32)(hn:n≤32*N)(hn2:n≤1000000)
  (eg:∀ args w,(callFunc gf args).run Tryz.prog w=.ok (.enter gf args) w) (hR:∀ k,R k→k<w.heap.size)
  (hit:aoD Tryz.prog gf lb (fun i v Y A=>Rd A v (B i)∧∀ b o n c,v=.slice (some ⟨b,o,none⟩) n c→Y b) N R w):
  Calls Tryz.prog 169 #[.int .i64 n,.func (.func gf) #[] lb] w fun e w'=>(∃ v,e=.returned v∧Ow 5 w' w.heap.size v (aeK B n))∧Kp w w':=by
 have U:=arN;obtain ⟨i0,hi0,hz0,hz1,hz2⟩:=info_parts Tryz.info5;by_cases h0:n=0
 ·subst h0
  rw[akp];go_enter Tryz.func169,Tryz.ntmps169;go_wp2;go_step3
  go_wp2_with (at_make;refine wpList_make_own _ rfl _ _ 24 rfl w.heap.size 5 i0 (.int .u8 0) 1 Tryz.underlying24 hi0 hz0 hz1 _ _ _ 0 rfl rfl rfl (by omega) (by unfold maxLen;omega) (by simp) ?_;intro w1 ho1 hg1;have k1:=Below.grown (Below.refl _ _) hg1 (Nat.le_refl _) (by intro k e;cases e);have hnb:=One.kp (One.new 3 w (.int .i64 0)) k1;have cn:=hnb.cell;have cna:∀ o,(w1.alloc o).cell? ⟨w.heap.size,0,none⟩=_:=(fun o=>Kp.cell ((Kp.refl w1).alloc o) cn);have hs1:=k1.size;rw[World.size_alloc] at hs1)
  rw[Exit.noGoto_ret];go_ret;refine ⟨⟨_,rfl,Ow.kp (l:=[]) (by rw[World.size_alloc] at ho1;exact ho1) ((Kp.refl _).alloc _)⟩,(((Kp.refl w).alloc _).trans k1).alloc _⟩
 ·have hne:¬(n:Int)=0:=by omega
  refine (callsIn_wide (n:=4)).1 ?_;refine callsIn_of_wp_marks Tryz.func169 rfl trivial ?_ rfl;refine wpIn_wide.2 ?_;simp only[Tryz.ntmps169,List.append_toArray,List.size_toArray,List.length_nil,List.length_cons,Nat.reduceAdd,Nat.reduceSub,Array.replicate_succ,Array.replicate_zero,List.push_toArray,List.nil_append,List.cons_append];go_wp2;go_step3
  go_wp2_with (at_make;refine wpList_make_own _ rfl _ _ 24 rfl w.heap.size 5 i0 (.int .u8 0) 1 Tryz.underlying24 hi0 hz0 hz1 _ _ _ n rfl rfl rfl (by rw[hz2];omega) (by unfold maxLen;omega) (by simp) ?_;intro w1 ho1 hg1;have k1:=Below.grown (Below.refl _ _) hg1 (Nat.le_refl _) (by intro k e;cases e);have hnb:=One.kp (One.new 3 w (.int .i64 n)) k1;have cn:=hnb.cell;have cna:∀ o,(w1.alloc o).cell? ⟨w.heap.size,0,none⟩=_:=(fun o=>Kp.cell ((Kp.refl w1).alloc o) cn);have hs1:=k1.size;rw[World.size_alloc] at hs1)
  go_step3
  go_wp2;rw[World.size_alloc] at ho1;obtain ⟨W0,hW0⟩:∃ W0,w1.alloc (.cells #[.slice (some ⟨w.heap.size+1,0,none⟩) 0 n] 24)=W0:=⟨_,rfl⟩;have hs0:W0.heap.size=w1.heap.size+1:=by rw[← hW0];simp
  have hb0:One 24 W0 w1.heap.size (.slice (some ⟨w.heap.size+1,0,none⟩) 0 n):=by rw[← hW0];exact One.new _ _ _
  have k0:Kp w1 W0:=by rw[← hW0];exact (Kp.refl _).alloc _
  have ho0:W0.ownsRow w.heap.size 5 1 (.slice (some ⟨w.heap.size+1,0,none⟩) 0 n) 0 (Lib.byteCells []):=Ow.kp (l:=[]) ho1 k0;have hn0:=hnb.kp k0;have kw0:Kp w W0:=(((Kp.refl w).alloc _).trans k1).trans k0;have hg1lt:w.heap.size+1<w1.heap.size:=(World.ownsRow.lt ho1 _ rfl).2;rw[hW0];have HB:=Lib.hid hB;clear hW0 ho1 hnb cn cna hg1 k0 hB k1;refine aee (R:=R) rfl eg kw0 hR hit rfl
   (fun i Y A=>One 24 A w1.heap.size (.slice (some ⟨w.heap.size+1,0,none⟩) (32*i) n)∧A.ownsRow w.heap.size 5 1 (.slice (some ⟨w.heap.size+1,0,none⟩) (32*i) n) (32*i) (Lib.byteCells (catB B i))∧One 3 A w.heap.size (.int .i64 n)∧Kp w A∧32*i<n)
   (fun c i Y A=>c=.exit 0∧One 24 A w1.heap.size (.slice (some ⟨w.heap.size+1,0,none⟩) n n)∧A.ownsRow w.heap.size 5 1 (.slice (some ⟨w.heap.size+1,0,none⟩) n n) n (Lib.byteCells (aeK B n))∧Kp w A)
   ?mI ?mIx ?TT ⟨hb0,ho0,hn0,kw0,by omega⟩
   (fun v a' _=>a'={ tmps:=#[.int .i64 n,.func (.func gf) #[] lb,.pointer (some ⟨w.heap.size,0,none⟩),undef,.slice none 0 0,.pointer (some ⟨w1.heap.size,0,none⟩),v,undef,undef,.int .i64 n,.slice (some ⟨w.heap.size+1,0,none⟩) 0 n,.int .i64 n,.bool false,undef,.func (.func gf) #[] lb,v,undef,undef,undef,undef,undef,undef,undef,undef,undef,undef,undef,undef,undef,undef,undef,undef],defers:=[] })
   (fun _ _ _ _ _ _ h _ _=>h) ?assign ?body ?done ?stop
  case mI=>
   rintro i Y Y' A A' ⟨h1,h2,h3,h4,h5⟩ hY hs hg;have hn1:∀ k,Y k→k≠w1.heap.size∧k≠w.heap.size+1∧k≠w.heap.size:=fun k hk=>by have:=hY k hk;omega
   exact ⟨h1.step hs (fun e=>(hn1 _ e).1 rfl),acM h2 hs (fun e=>(hn1 _ e).2.1 rfl),h3.step hs (fun e=>(hn1 _ e).2.2 rfl),Below.trans h4 (hs.below h4.size (fun k hk=>by have:=hY k hk;omega)),h5⟩
  case mIx=>
   rintro c i Y Y' A A' ⟨h0,h1,h2,h4⟩ hY hs hg;have hn1:∀ k,Y k→k≠w1.heap.size∧k≠w.heap.size+1∧k≠w.heap.size:=fun k hk=>by have:=hY k hk;omega
   exact ⟨h0,h1.step hs (fun e=>(hn1 _ e).1 rfl),acM h2 hs (fun e=>(hn1 _ e).2.1 rfl),Below.trans h4 (hs.below h4.size (fun k hk=>by have:=hY k hk;omega))⟩
  case TT=>
   rintro i v Yi Y A A' l o ⟨hr,hv⟩ hyy _ _ hl hs;exact ⟨hr.turn hl rfl hs,fun b o n c e=>hyy _ (hv b o n c e)⟩
  case assign=>
   intro l i Y Yi v A K hI hT hK;gi_wp2
   exact hK _ _ (Kp.refl _) rfl
  case body=>
   rintro l i Y v a' A hi ⟨h1,h2,h3,h4,h5⟩ hyb hRA ⟨hrd,hvy⟩ rfl;clear hb0 ho0 hn0;have hbl:=HB.out i;obtain ⟨av,cv,rfl,q1,q2⟩:=hrd.shape;unfold maxLen at q2;rw[hbl] at hvy q1;gi_wp2
   gi_loopw [18] (fun p wr=>∃ j:Nat,j≤32∧p=.int .i64 j∧One 24 wr w1.heap.size (.slice (some ⟨w.heap.size+1,0,none⟩) (32*i+j) n)∧wr.ownsRow w.heap.size 5 1 (.slice (some ⟨w.heap.size+1,0,none⟩) (32*i+j) n) (32*i+j) (Lib.byteCells (catB B i++(B i).take j))∧One 3 wr w.heap.size (.int .i64 n)∧Kp w wr∧Held (fun k=>Y k∨R k) A wr∧32*i+j<n) (fun p _=>32 - (intOf p).toNat)
   case atStart=>exact ⟨0,by omega,rfl,h1,by simpa using h2,h3,h4,Held.refl _ _,h5⟩
   case round=>
    clear h1 h2 h3 h4 h5;obtain ⟨j,hj,rfl,h1,h2,h3,h4,hh,h5⟩:=hrel;by_cases hlt:j<32
    ·obtain ⟨b,off,rfl,_,hcell⟩:=hrd.at j (by omega)
     have hc0:=hh.cell (hcell j (by omega)) (.inl (hvy b off _ _ rfl));have hji:(j:Int)<32:=by omega
     have hsn:=aeB (B i) j (by omega);have HH:=Lib.hid (fun h=>ako B HB.out n i j hlt h);rw[hsn] at HH;obtain ⟨K,hK⟩:∃ K,32*i+j=K:=⟨_,rfl⟩;have HK:=Lib.hid hK;obtain ⟨L,hL⟩:∃ L,catB B i++(B i).take j=L:=⟨_,rfl⟩;have HL:Hid (catB B i++(B i).take (j+1)=L++[(B i).getD j 0]):=by show _=_;rw[hsn,← List.append_assoc,hL]
     rw[← List.append_assoc,hL] at HH;have hg:w.heap.size+1<wr.heap.size:=(World.ownsRow.lt h2 _ rfl).2;rw[hK] at h1 h2 h5;rw[hL] at h2;generalize hx:(B i).getD j 0=x at *;have hno:∀ k,Y k∨R k→k≠w1.heap.size∧k≠w.heap.size+1:=fun k hk=>by
      rcases hk with h | h
      ·have:=hyb k h;omega
      ·have:=hR k h;omega
     have HNO:=Lib.hid hno;have c1:=h1.cell;have hne1:¬w1.heap.size=w.heap.size:=by omega
     have hne2:¬w.heap.size=w1.heap.size:=by omega
     have hjl:j<(B i).length:=by omega
     clear hsn hK hL hcell hx hno hrd hvy hbl;have hq:decide ((K:Int)+1=n)=decide (K+1=n):=by congr 1;exact propext ⟨fun h=>by omega,fun h=>by omega⟩
     have hq2:((K:Int)+1==(n:Int))=decide (K+1=n):=by rw[← hq];rfl
     clear hq;have fin:∀ w2:World,(wr.alloc (.cells #[.int .u8 (x.toNat:Int)] 5)).grownBy w2 (some (w.heap.size+1))→w2.ownsRow w.heap.size 5 1 (.slice (some ⟨w.heap.size+1,0,none⟩) (K+1) n) (K+1) (Lib.byteCells L++[.int .u8 (x.toNat:Int)]) →
       One 24 w2 w1.heap.size (.slice (some ⟨w.heap.size+1,0,none⟩) K n)→One 3 w2 w.heap.size (.int .i64 n)→∀ W,w2.setCell ⟨w1.heap.size,0,none⟩ (.slice (some ⟨w.heap.size+1,0,none⟩) (K+1) n)=W →
       One 24 W w1.heap.size (.slice (some ⟨w.heap.size+1,0,none⟩) (K+1) n)∧W.ownsRow w.heap.size 5 1 (.slice (some ⟨w.heap.size+1,0,none⟩) (K+1) n) (K+1) (Lib.byteCells (L++[x]))∧One 3 W w.heap.size (.int .i64 n)∧Kp w W∧Held (fun k=>Y k∨R k) A W:=by
      intro w2 hg2 ho2 hb2 hn2 W hW;subst hW;have hgs:w1.heap.size≠w.heap.size+1:=by omega
      refine ⟨hb2.set _,?_,hn2.step ((Step.refl (fun k=>k=w1.heap.size) w2).setCell _ _ (.inr rfl)) (fun e=>hne2 e),Below.setCell (Below.grown (Below.trans h4 (((Kp.refl wr).alloc _).mono h4.size)) hg2 (by have:=h4.size;simp;omega) (fun k e=>by cases e;omega)) (by simp;omega) _,?_⟩
      ·rw[acj]
       exact acM ho2 ((Step.refl (fun k=>k=w1.heap.size) w2).setCell _ _ (.inr rfl)) (fun e=>hgs e.symm)
      ·refine hh.trans ⟨Nat.le_trans (by simp) (Nat.le_trans hg2.size (by simp)),fun k hk hr=>?_⟩
       obtain ⟨h1,h2⟩:=HNO.out k hr;exact (Below.heap_setCell w2 _ _ k (fun e=>h1 (by simpa using e))).trans ((hg2.block k (by simp;omega) (fun e=>h2 (by cases e;rfl))).trans (Below.heap_alloc wr _ k hk))
     by_cases hend:K+1=n
     ·rw[decide_eq_true hend] at hq2
      gi_wp2_with (gi_at_builtin;refine wpListIn_append_fits _ rfl _ _ 24 rfl w.heap.size 5 i0 1 U.ht hi0 hz1 (w.heap.size+1) K n _ rfl (Ow.kp' h2 ((Kp.refl _).alloc _)) ⟨wr.heap.size,0,none⟩ 1 1 [.int .u8 (x.toNat:Int)] rfl rfl (aju wr _ _) (by intro arO hu;simp at hu;subst hu;rfl) (by omega) ?_;intro w2 ho2 hg2;have hb2:=aeL ((Kp.refl wr).alloc (.cells #[.int .u8 (x.toNat:Int)] 5)) hg2 h1 (by omega);have hn2':=aeL ((Kp.refl wr).alloc (.cells #[.int .u8 (x.toNat:Int)] 5)) hg2 h3 (by omega);have cb2:=hb2.cell;have fb2:=hb2.frozen;have cn2:=hn2'.cell)
      obtain ⟨f1,f2,f3,f4,f5⟩:=fin w2 hg2 ho2 hb2 hn2' _ rfl;rw[HH.out (by have:=HK.out;omega)] at f2;rw[hend] at f1 f2 f4 f5;exact ⟨f5,.inr ⟨_,rfl,rfl,f1,f2,f4⟩⟩
     ·rw[decide_eq_false hend] at hq2
      gi_wp2_with (gi_at_builtin;refine wpListIn_append_fits _ rfl _ _ 24 rfl w.heap.size 5 i0 1 U.ht hi0 hz1 (w.heap.size+1) K n _ rfl (Ow.kp' h2 ((Kp.refl _).alloc _)) ⟨wr.heap.size,0,none⟩ 1 1 [.int .u8 (x.toNat:Int)] rfl rfl (aju wr _ _) (by intro arO hu;simp at hu;subst hu;rfl) (by omega) ?_;intro w2 ho2 hg2;have hb2:=aeL ((Kp.refl wr).alloc (.cells #[.int .u8 (x.toNat:Int)] 5)) hg2 h1 (by omega);have hn2':=aeL ((Kp.refl wr).alloc (.cells #[.int .u8 (x.toNat:Int)] 5)) hg2 h3 (by omega);have cb2:=hb2.cell;have fb2:=hb2.frozen;have cn2:=hn2'.cell)
      obtain ⟨f1,f2,f3,f4,f5⟩:=fin w2 hg2 ho2 hb2 hn2' _ rfl;go_roundw
      case rel=>exact ⟨j+1,by omega,by go_num,by rw[← Nat.add_assoc,HK.out];exact f1,by rw[← Nat.add_assoc,HK.out,HL.out];exact f2,f3,f4,f5,by have:=HK.out;omega⟩
      case measure=>simp[intOf];omega
    ·obtain rfl:j=32:=by omega
     have hend:catB B i++(B i).take 32=catB B (i+1):=by rw[catB,List.take_of_length_le (by omega)]
     rw[hend] at h2;gi_wp2
     exact .inl ⟨h1,h2,h5⟩
  case done=>
   rintro D Y W hD hYD hYb ⟨h1,h2,h3,h4,h5⟩ hd;omega
  case stop=>
   rintro D c i Y W hD hYD hYb hi ⟨rfl,h1,h2,h4⟩ hd;have c1:=h1.cell;clear hb0 ho0 hn0;go_wp2;rw[Exit.noGoto_ret];have hfl:=abP B HB.out n;have hst:Step (fun k=>k=D) W (W.putObj D (.deferred none)):=(Step.refl _ W).putObj _ _ (.inr rfl);refine ⟨by simp,.inl ⟨_,_,rfl,run_takeDeferred hd,?_⟩⟩;refine ⟨_,results_tmp rfl _ _ _,⟨_,rfl,?_⟩,Below.trans h4 (hst.below h4.size (fun k hk=>by omega))⟩;have h3:=acM h2 hst (fun e=>by omega);unfold Ow;rw[hfl];exact h3
attribute [local go_sem] Oper.semAt_some
def In (p:Nat→Prop)(v:Value):Prop:=∀ b o n c,v=.slice (some ⟨b,o,none⟩) n c→p b
theorem Rd.step {Y:Nat→Prop}{A B:World}{v:Value}{l:List UInt8}(h:Rd A v l)(hs:Step Y A B)(hx:In (fun b=>¬Y b) v):Rd B v l:=
 h.held (R:=fun b=>¬Y b) ⟨hs.size,fun k hk hr=>hs.block k hk hr⟩ hx
theorem Rd.heldAll {w B:World}{v:Value}{l:List UInt8}(h:Rd w v l)(hs:Held (fun j=>j<w.heap.size) w B):Rd B v l:=by
 obtain ⟨a,c,rfl,h1,h2,h3,h4⟩:=h;exact ⟨a,c,rfl,h1,h2,h3,fun x hx i hi=>hs.cell (h4 x hx i hi) (World.block_lt_of_cell? w _ (h4 x hx i hi))⟩
theorem One.heldAll {T:TypeId}{w B:World}{p:Nat}{v:Value}(h:One T w p v)(hs:Held (fun j=>j<w.heap.size) w B):One T B p v:=h.held hs h.lt
theorem RL.lit2 {w:World}{T:TypeId}{v1 v2:Value}{l1 l2:List UInt8}(h1:Rd w v1 l1)(h2:Rd w v2 l2):RL (w.alloc (.cells #[v1,v2] T)) (.slice (some ⟨w.heap.size,0,none⟩) 2 2) [l1,l2]:=
 RL.cons (us:=[v2]) (ls:=[l2]) (World.ownsRow_lit w #[v1,v2] 2 (Nat.le_refl _) (by unfold maxLen;omega) rfl) (h1.kp ((Kp.refl _).alloc _)) rfl (fun i hi=>by
  have:i=0:=by simpa using hi
  subst this;exact h2.kp ((Kp.refl _).alloc _))
theorem RL.lit3 {w:World}{T:TypeId}{v1 v2 v3:Value}{l1 l2 l3:List UInt8}(h1:Rd w v1 l1)(h2:Rd w v2 l2)(h3:Rd w v3 l3):RL (w.alloc (.cells #[v1,v2,v3] T)) (.slice (some ⟨w.heap.size,0,none⟩) 3 3) [l1,l2,l3]:=
 RL.cons (us:=[v2,v3]) (ls:=[l2,l3]) (World.ownsRow_lit w #[v1,v2,v3] 3 (Nat.le_refl _) (by unfold maxLen;omega) rfl) (h1.kp ((Kp.refl _).alloc _)) rfl (fun i hi=>by
  have hi2:i<2:=by simpa using hi
  match i,hi2 with
  | 0,_=>exact h2.kp ((Kp.refl _).alloc _)
  | 1,_=>exact h3.kp ((Kp.refl _).alloc _))
theorem ajw (vk vi:Value)(k info:List UInt8)(w:World)(hk:Rd w vk k)(hkl:k.length≤2000)(hv:∃ a n c,vi=.slice a n c):
  Calls Tryz.prog 170 #[vk,vi] w fun e w'=>(∃ gK,e=.returned (.func (.func 198) #[] #[.pointer (some ⟨w.heap.size,0,none⟩),.pointer (some ⟨w.heap.size+1,0,none⟩)]) ∧
   One 24 w' w.heap.size (.slice (some ⟨gK,0,none⟩) 64 64)∧One 24 w' (w.heap.size+1) vi∧By 5 w' gK (keyB k))∧Kp w w':=by
 obtain ⟨ai,ni,ci,rfl⟩:=hv;obtain ⟨ak,ck,rfl,_,_⟩:=hk.shape;have HA:Hid (One 24 (w.alloc (.cells #[.slice ak k.length ck] 24)) w.heap.size (.slice ak k.length ck)):=One.new _ _ _;have HB:Hid (One 24 ((w.alloc (.cells #[.slice ak k.length ck] 24)).alloc (.cells #[.slice ai ni ci] 24)) (w.heap.size+1) (.slice ai ni ci)):=by
  have:=One.new 24 (w.alloc (.cells #[.slice ak k.length ck] 24)) (.slice ai ni ci);rwa [World.size_alloc] at this
 go_enter Tryz.func170,Tryz.ntmps170;go_wp2_with (go_at_call 197;refine (anz _ k _ (hk.kp (((Kp.refl w).alloc _).alloc _)) hkl).mono ?_;rintro e w1 ⟨⟨gK,rfl,b1,hge⟩,k1⟩;have h1:=(HA.out.kp ((Kp.refl _).alloc _)).kp k1;have h2:=HB.out.kp k1;have c1:=h1.cell;have f1:=h1.frozen)
 go_ret;rw[World.size_alloc,World.size_alloc] at hge;have hst:Step (fun k=>k=w.heap.size) w1 (w1.setCell ⟨w.heap.size,0,none⟩ (.slice (some ⟨gK,0,none⟩) 64 64)):=(Step.refl _ w1).setCell _ _ (.inr rfl);exact ⟨⟨gK,rfl,h1.set _,h2.step hst (by omega),(hst.block gK b1.lt (by omega)).trans b1⟩,Below.setCell (Below.trans (((Kp.refl w).alloc _).alloc _) (k1.mono (by simp;omega))) (by simp) _⟩
theorem ahj (b1 b2 gK:Nat)(vi:Value)(k info:List UInt8)(w:World)(h1:One 24 w b1 (.slice (some ⟨gK,0,none⟩) 64 64))(h2:One 24 w b2 vi)(h3:By 5 w gK (keyB k))(h4:Rd w vi info)
  (hkl:k.length≤2000) (hil:info.length≤1800):
  aoD Tryz.prog 198 #[.pointer (some ⟨b1,0,none⟩),.pointer (some ⟨b2,0,none⟩)] (fun i v Y A=>Rd A v (expT k info i)∧In Y v) 255 (fun j=>j<w.heap.size) w:=by
 intro l J Jx W hh hl1 hl2 hJ hJx hY h0;have HJ:=Lib.hid hJ;have HJx:=Lib.hid hJx;have HY:=Lib.hid hY;have HK:=Lib.hid (adk k);have HP:=Lib.hid (agz k info);have HS:Hid (∀ i,macB (keyB k) (expP k info i++info++be 1 (i+1))=expT k info i):=fun i=>by rw[ao0,ajs]
 have HE:Hid (∀ i,expP k info (i+1)=expT k info i):=fun _=>rfl
 have HB:=Lib.hid (fun i=>aak 1 (i+1));have hw:=hh.size;obtain ⟨ai,ci,rfl,qi1,qi2⟩:=h4.shape;have HI:Hid (One 24 w b2 (.slice ai info.length ci)∧Rd w (.slice ai info.length ci) info∧One 24 w b1 (.slice (some ⟨gK,0,none⟩) 64 64)∧Rd w (.slice (some ⟨gK,0,none⟩) 64 64) (keyB k)):=
  ⟨h2,h4,h1,h3.rdAll (by rw[HK.out]) (Nat.le_refl _) (by unfold maxLen;omega)⟩
 clear hJ hJx hY h1 h2 h3 h4;refine (callsIn_wide (n:=4)).1 ?_;refine callsIn_of_wp_marks Tryz.func198 rfl trivial ?_ rfl;refine wpIn_wide.2 ?_;simp only[Tryz.ntmps198,List.append_toArray,List.append_nil,List.size_toArray,List.length_cons,List.length_nil,Nat.reduceAdd,Nat.reduceSub,Array.replicate_succ,Array.replicate_zero,List.push_toArray,List.nil_append,List.cons_append];go_wp2_with (go_at_call 199;refine (alZ 1 _).mono ?_;rintro e w1 ⟨rfl,hw1⟩)
 have hs1:w1.heap.size=W.heap.size+3:=by rw[← hw1];simp
 have e3:One 187 w1 W.heap.size (.func (.yield l) #[] #[]):=by rw[← hw1];exact ((One.new _ _ _).kp ((Kp.refl _).alloc _)).kp ((Kp.refl _).alloc _)
 have e4:One 24 w1 (W.heap.size+1) (.slice none 0 0):=by
  have:=(One.new 24 (W.alloc (.cells #[.func (.yield l) #[] #[]] 187)) (.slice none 0 0)).kp ((Kp.refl _).alloc (.cells #[.int .i64 ((1:Nat):Int)] 3));rw[World.size_alloc,hw1] at this;exact this
 have e5:One 3 w1 (W.heap.size+1+1) (.int .i64 ((1:Nat):Int)):=by
  have:=One.new 3 ((W.alloc (.cells #[.func (.yield l) #[] #[]] 187)).alloc (.cells #[.slice none 0 0] 24)) (.int .i64 ((1:Nat):Int));rw[World.size_alloc,World.size_alloc,hw1] at this;exact this
 have kW:Kp W w1:=by rw[← hw1];exact (((Kp.refl W).alloc _).alloc _).alloc _
 clear hw1;refine aee (R:=fun j=>j=W.heap.size+1+1) rfl (enters_of Tryz.func234 (by kernel_rfl) rfl) (Kp.refl _) (fun j hj=>by omega) (ajv 1 255 (W.heap.size+1+1) w1 (by omega) rfl e5.cell) rfl
  (fun i Y A=>∃ Yo,J i Yo A∧(∀ j,Y j→Yo j)∧(∀ j,Yo j→W.heap.size≤j∧j<A.heap.size)∧Yo W.heap.size∧Yo (W.heap.size+1)∧Yo (W.heap.size+1+1)∧One 187 A W.heap.size (.func (.yield l) #[] #[]) ∧
   (∃ v,One 24 A (W.heap.size+1) v∧Rd A v (expP k info i)∧In (fun b=>Yo b∧¬Y b) v)∧Held (fun j=>j<w.heap.size) w A)
  (fun c i Y A=>c=.ret∧∃ Yo,Jx i Yo A∧(∀ j,Y j→Yo j)∧(∀ j,Yo j→W.heap.size≤j∧j<A.heap.size)∧Yo W.heap.size)
  ?mI ?mIx ?TT ⟨fun j=>W.heap.size≤j∧j<w1.heap.size,HJ.out 0 _ _ W w1 h0 (fun _ h=>h.elim) (Step.of_kp kW) (fun j hj=>.inr hj),fun _ h=>h.elim,fun _ h=>h,by omega,by omega,by omega,e3,⟨_,e4,abn _,fun b o n c e=>by cases e⟩,hh.trans (Held.of_kp kW)⟩
  (fun v a' _=>a'={ tmps:=#[.func (.yield l) #[] #[],.pointer (some ⟨b1,0,none⟩),.pointer (some ⟨b2,0,none⟩),.pointer (some ⟨W.heap.size,0,none⟩),.pointer (some ⟨W.heap.size+1,0,none⟩),v,.func (.func 234) #[] #[.pointer (some ⟨W.heap.size+1+1,0,none⟩)],v,undef,undef,undef,undef,undef,undef,undef,undef,undef,undef],defers:=[] })
  (fun _ _ _ _ _ _ h _ _=>h) ?assign ?body ?done ?stop
 case mI=>
  rintro i Y Y' A B ⟨Yo,hj,hyo,hyb,y3,y4,y5,o3,⟨v,o4,hr,hv⟩,hR⟩ hY hs hg;have hsz:=hs.size;have hn:∀ j,Y j→W.heap.size+3≤j:=fun j h=>by have:=(hY j h).1;omega
  refine ⟨fun j=>Yo j∨Y' j,HJ.out i Yo _ A B hj hyb (hs.mono hyo) (fun j h=>h.elim .inl (fun h=>(hg j h).imp (hyo j) id)),fun j h=>.inr h,fun j h=>?_,.inl y3,.inl y4,.inl y5,o3.step hs (fun e=>by have:=hn _ e;omega),⟨v,o4.step hs (fun e=>by have:=hn _ e;omega),hr.step hs (fun b o n c e=>(hv b o n c e).2),fun b o n c e=>⟨.inl (hv b o n c e).1,fun h=>?_⟩⟩,hR.trans (Held.of_step hs (fun j hj h=>by have:=hn j h;omega))⟩
  ·rcases h with h | h
   ·have:=hyb j h;omega
   ·rcases hg j h with h | h
    ·have:=hyb j (hyo j h);omega
    ·have:=(hyb _ y3).2;omega
  ·rcases hg b h with h | h
   ·exact (hv b o n c e).2 h
   ·have:=(hyb b (hv b o n c e).1).2;omega
 case mIx=>
  rintro c i Y Y' A B ⟨hc,Yo,hj,hyo,hyb,y3⟩ hY hs hg;have hsz:=hs.size;refine ⟨hc,fun j=>Yo j∨Y' j,HJx.out i Yo _ A B hj hyb (hs.mono hyo) (fun j h=>h.elim .inl (fun h=>(hg j h).imp (hyo j) id)),fun j h=>.inr h,fun j h=>?_,.inl y3⟩;rcases h with h | h
  ·have:=hyb j h;omega
  ·rcases hg j h with h | h
   ·have:=hyb j (hyo j h);omega
   ·have:=(hyb _ y3).2;omega
 case TT=>
  rintro i v Yi Y A A' l' o hr _ _ _ hl hs;exact hr.turn hl rfl hs
 case assign=>
  intro l' i Y Yi v A K hI hT hK;gi_wp2
  exact hK _ _ (Kp.refl _) rfl
 case body=>
  rintro l' i Y v a' A hi ⟨Yo,hj,hyo,hyb,y3,y4,y5,o3,⟨vb,o4,hr,hvb⟩,hR⟩ hYb hRA hT rfl;obtain ⟨i1,i2,i3,i4⟩:=HI.out;obtain ⟨av,cv,rfl,_,_⟩:=hT.shape;obtain ⟨ab,cb,rfl,_,_⟩:=hr.shape;obtain ⟨nv,hnv⟩:∃ nv,(be 1 (i+1)).length=nv:=⟨_,rfl⟩;obtain ⟨nb,hnb⟩:∃ nb,(expP k info i).length=nb:=⟨_,rfl⟩;rw[hnv] at hT ⊢;rw[hnb] at hr o4 hvb;clear hnv hnb;have p1:=(i3.heldAll hR).cell;have p2:=(i1.heldAll hR).cell;have p3:=o3.cell;have p4:=o4.cell;have f4:=o4.frozen;have hfl:([expP k info i,info,be 1 (i+1)]:List (List UInt8)).flatten=expP k info i++info++be 1 (i+1):=by simp
  have hT1:=HS.out i;have q0:=HP.out i;have q3:=HB.out i;have hfll:([expP k info i,info,be 1 (i+1)]:List (List UInt8)).flatten.length≤1900:=by rw[hfl,List.length_append,List.length_append,q3];omega
  have hmac:=Lib.hid (fun T=>anD (.slice (some ⟨gK,0,none⟩) 64 64) (.slice (some ⟨A.heap.size,0,none⟩) 3 3) (keyB k) [expP k info i,info,be 1 (i+1)] (A.alloc (.cells #[.slice ab nb cb,.slice ai info.length ci,.slice av nv cv] T)) ((i4.heldAll hR).kp ((Kp.refl _).alloc _)) (RL.lit3 hr (i2.heldAll hR) hT) (by rw[HK.out];omega) hfll (by simp));rw[hfl,hT1] at hmac;have HYat:∀ (T:TypeId) (w3:World) (a c:_),Ow 5 w3 (A.heap.size+1) (.slice a 32 c) (expT k info i)→Kp (A.alloc (.cells #[.slice ab nb cb,.slice ai info.length ci,.slice av nv cv] T)) w3→∀ m,∃ Y2:Nat→Prop,(∀ j,Yo j→Y2 j)∧(∀ j,Y2 j→W.heap.size≤j∧j<w3.heap.size)∧In (fun b=>Y2 b∧¬Y b) (.slice a 32 c)∧Rd (w3.setCell ⟨W.heap.size+1,0,none⟩ (.slice a 32 c)) (.slice a 32 c) (expT k info i) ∧
    Step Yo A (w3.setCell ⟨W.heap.size+1,0,none⟩ (.slice a 32 c)) ∧
    YieldAt Fence.wide m Tryz.prog l #[.slice a 32 c] (w3.setCell ⟨W.heap.size+1,0,none⟩ (.slice a 32 c)) fun e B=>Held (fun j=>Y2 j∨j<w.heap.size) (w3.setCell ⟨W.heap.size+1,0,none⟩ (.slice a 32 c)) B∧((e=.returned (.bool true)∧J (i+1) Y2 B)∨(e=.returned (.bool false)∧Jx i Y2 B)):=by
   intro T w3 a c ow kp m;have hkA:Kp A w3:=((Kp.refl A).alloc _).trans kp;have hzA:=kp.size;rw[World.size_alloc] at hzA;have hst:Step Yo A (w3.setCell ⟨W.heap.size+1,0,none⟩ (.slice a 32 c)):=(Step.of_kp hkA).setCell _ _ (.inr y4);have hin:In (fun b=>(Yo b∨(A.heap.size≤b∧b<w3.heap.size))∧¬Y b) (.slice a 32 c):=fun b o n c' e=>by
    have e2:(Value.slice a 32 c).ownBlock=some b:=by rw[e];rfl
    have h1:=ow.own_ge b e2;have h2:=ow.lt b e2;exact ⟨.inr (by omega),fun h=>by have:=(hyb b (hyo b h)).2;omega⟩
   have hrd:Rd (w3.setCell ⟨W.heap.size+1,0,none⟩ (.slice a 32 c)) (.slice a 32 c) (expT k info i):=
    ow.rd.step (Y:=fun b=>b=W.heap.size+1) ((Step.refl _ _).setCell _ _ (.inr rfl)) (fun b o n c' e h=>by
     have e2:(Value.slice a 32 c).ownBlock=some b:=by rw[e];rfl
     have h1:=ow.own_ge b e2;have h2:=(hyb _ y4).2;omega)
   have hbd:∀ j,(Yo j∨(A.heap.size≤j∧j<w3.heap.size))→W.heap.size≤j∧j<w3.heap.size:=fun j h=>by
    have:=(hyb _ y4).2;rcases h with h | h
    ·have:=hyb j h;omega
    ·omega
   refine ⟨fun j=>Yo j∨(A.heap.size≤j∧j<w3.heap.size),fun j h=>.inl h,hbd,hin,hrd,hst,?_⟩;refine HY.out i _ _ _ m hi (HJ.out i Yo _ A _ hj hyb hst (fun j h=>h.imp id (fun h=>by simpa using h))) (fun j h=>by simpa using hbd j h) (hR.trans (Held.of_step hst (fun j hj h=>by have:=hyb j h;omega))) ⟨hrd,fun b o n c' e=>(hin b o n c' e).1⟩
  have HYA:=Lib.hid HYat;clear hT1 q0 q3 hfl hfll hT HYat;gi_wp2_with (refine ⟨trivial,?_⟩;gi_at_call 200;refine (CallsIn.inRound l' (callsIn_wide.2 (hmac.out _))).mono ?_;rintro e w3 ⟨⟨a3,c3,rfl,ow⟩,k3⟩;rw[World.size_alloc] at ow;have d4:=((o4.kp ((Kp.refl A).alloc _)).kp k3);have d3:=((o3.kp ((Kp.refl A).alloc _)).kp k3).cell;have d4c:=d4.cell;have d4f:=d4.frozen;obtain ⟨Y2,g1,g2,g3,g4,g5,fn,tmps,assign,body,hy,hRd⟩:=HYA.out _ w3 a3 c3 ow k3 3)
  have hz3:=k3.size;rw[World.size_alloc] at hz3;have hy4:=(hyb _ y4).2;have hkA:Kp A w3:=((Kp.refl A).alloc _).trans k3;obtain ⟨W4,hW4⟩:∃ W4,w3.setCell ⟨W.heap.size+1,0,none⟩ (.slice a3 32 c3)=W4:=⟨_,rfl⟩;have o44:One 24 W4 (W.heap.size+1) (.slice a3 32 c3):=by rw[← hW4];exact d4.set _
  have hA4:∀ j,j<A.heap.size→j≠W.heap.size+1→W4.heap[j]?=A.heap[j]?:=fun j h1 h2=>by
   rw[← hW4];exact (Below.heap_setCell w3 _ _ j (by simpa using h2)).trans (hkA.block j h1)
  have o34:One 187 W4 W.heap.size (.func (.yield l) #[] #[]):=(hA4 _ o3.lt (by omega)).trans o3;have hz4:W4.heap.size=w3.heap.size:=by rw[← hW4];simp
  rw[hW4] at hRd g4 g5 ⊢;have hNY:∀ j,Y j→W.heap.size+3≤j:=fun j h=>by have:=(hYb j h).1;omega
  have hEE:=HE.out i;clear d4c d4f p1 p2 p3 p4 f4 hy d3 d4 hmac HYA hr hvb o4 o3 ow;refine RoundIn.mono (F:=Fence.wide.inRound l') hRd ?_;rintro e B ⟨hB,(⟨rfl,hj2⟩ | ⟨rfl,hx2⟩)⟩
  ·have hzB:=hB.size
   have hfin:Held (fun j=>Y j∨j=W.heap.size+1+1) A B:=⟨by omega,fun j hj h=>(hB.block j (by omega) (.inl (h.elim (fun h=>g1 j (hyo j h)) (fun h=>g1 j (h▸y5))))).trans (hA4 j hj (h.elim (fun h=>by have:=hNY j h;omega) (fun h=>by omega)))⟩;have hR2:Held (fun j=>j<w.heap.size) w B:=(hR.trans (Held.of_step g5 (fun j hj h=>by have:=hyb j h;omega))).trans (hB.mono (fun j h=>.inr h));have o4B:=o44.held hB (.inl (g1 _ y4));have o3B:=o34.held hB (.inl (g1 _ y3));have hrB:Rd B (.slice a3 32 c3) (expT k info i):=g4.held hB (fun b o n c e=>.inl (g3 b o n c e).1);clear hB g4 g5 hA4 hRd;gi_wp2
   exact .inl ⟨Y2,hj2,fun j h=>g1 j (hyo j h),fun j h=>by have:=g2 j h;omega,g1 _ y3,g1 _ y4,g1 _ y5,_,o4B,hrB,g3⟩
  ·have hzB:=hB.size
   have hfin:Held (fun j=>Y j∨j=W.heap.size+1+1) A B:=⟨by omega,fun j hj h=>(hB.block j (by omega) (.inl (h.elim (fun h=>g1 j (hyo j h)) (fun h=>g1 j (h▸y5))))).trans (hA4 j hj (h.elim (fun h=>by have:=hNY j h;omega) (fun h=>by omega)))⟩;clear hB g4 g5 hA4 hRd;gi_wp2
   exact ⟨hfin,.inr ⟨_,rfl,rfl,Y2,hx2,fun j h=>g1 j (hyo j h),fun j h=>by have:=g2 j h;omega,g1 _ y3⟩⟩
 case done=>
  rintro D Y W2 hD hYD hYb ⟨Yo,hj,hyo,hyb,y3,y4,y5,_⟩ hd;go_wp2;refine ⟨by simp,.inl ⟨_,_,rfl,run_takeDeferred hd,?_⟩⟩;refine ⟨_,results_none rfl _ _ _,⟨_,rfl⟩,Yo,fun j h=>by have:=hyb j h;rw[acv];omega,.inl (HJ.out _ Yo Yo W2 _ hj hyb ((Step.refl _ _).putObj _ _ (.inr (hyo _ hYD))) (fun _ h=>.inl h))⟩
 case stop=>
  rintro D c i Y W2 hD hYD hYb hi ⟨rfl,Yo,hx,hyo,hyb,y3⟩ hd;go_wp2;refine ⟨by simp,.inl ⟨_,_,rfl,run_takeDeferred hd,?_⟩⟩;refine ⟨_,results_none rfl _ _ _,⟨_,rfl⟩,Yo,fun j h=>by have:=hyb j h;rw[acv];omega,.inr ⟨i,hi,HJx.out _ Yo Yo W2 _ hx hyb ((Step.refl _ _).putObj _ _ (.inr (hyo _ hYD))) (fun _ h=>.inl h)⟩⟩
end Go.Proofs.YthmhklmkgkfcpaaGreatDoor
