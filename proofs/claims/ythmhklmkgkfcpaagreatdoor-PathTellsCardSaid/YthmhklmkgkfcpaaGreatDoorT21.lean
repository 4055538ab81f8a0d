import Derived.Test.YthmhklmkgkfcpaaGreatDoorT3
import Derived.Test.YthmhklmkgkfcpaaGreatDoorT5
import Derived.Test.YthmhklmkgkfcpaaGreatDoorT6
import Derived.Test.YthmhklmkgkfcpaaGreatDoorT15
import Derived.Test.YthmhklmkgkfcpaaGreatDoorT19
import Derived.RangeFuncBox
import Derived.Maps.OwnIn
import Derived.WalkMore
set_option linter.unusedVariables false
set_option linter.unusedSimpArgs false
set_option maxHeartbeats 8000000
set_option maxRecDepth 100000
namespace Go.Proofs.YthmhklmkgkfcpaaGreatDoor
open Go.RowKit
section
variable {F : Fence} {n : Nat} {P : Program} {ops : Array Oper} {Q : Exit → Act → World → Prop} {md : Region.Mode} {S : World → Prop}
structure Calm (P:Program)(ops:Array Oper)(S:World→Prop)(o:Oper)(v:Value)(a:Act):Prop where
 nodefer:∀ c,o.op≠.defer c
 about:∀ w,o.about P w a.eval=none
 yields:(Region.wanted o (yielded ops a.tmps)=true∧∀ w,S w→(execOp a.eval o).run P w=.ok (.value v) w)∨(Region.wanted o (yielded ops a.tmps)=false∧v=undef)
def aiA (ops:Array Oper):Bool:=ops.all fun o=>match o.op with | .defer _=>false | _=>true
theorem ajJ (h:aiA ops=true){j:Nat}{o:Oper}(hj:ops[j]?=some o):∀ c,o.op≠.defer c:=fun c e=>by
 have:=Array.all_eq_true_iff_forall_mem.1 h o (Array.mem_of_getElem? hj);rw[e] at this;cases this
theorem Calm.put {o oj:Oper}{v:Value}{a:Act}(h:Calm P ops S o v a)(hs:∀ cs b,o.op≠.select cs b)(u:Value)(hap:∀ d,oj.dst=some d→d∉o.looksAt ops):Calm P ops S o v (a.put oj.dst u):=by
 obtain ⟨h1,h2,h3⟩:=h;refine ⟨h1,fun w=>(about_put o w a oj.dst u hap).trans (h2 w),?_⟩;rw[wanted_put o a oj.dst u hap,execOp_put o hs a oj.dst u hap];exact h3
theorem Calm.run {o:Oper}{i:Nat}{v:Value}{a:Act}{w:World}{K:Act→World→Prop}(h:Calm P ops S o v a)(hi:ops[i]?=some o)(hS:S w)(hK:K (a.put o.dst v) w):wpOpIn F n P ops Q i K a w:=by
 have hab:∀ f,o.about P w a.eval=some f→F.fn f:=fun f hf=>by rw[h.about w] at hf;cases hf
 unfold wpOpIn;simp only[hi];rcases h.yields with ⟨hw,hv⟩ | ⟨hw,rfl⟩
 ·rw[if_pos hw]
  exact ⟨hab,by rw[Oper.semAt_plain F _ _ h.nodefer,hv w hS];exact hK⟩
 ·rw[if_neg (by rw[hw];decide)]
  exact ⟨hab,hK⟩
theorem Calm.later {j:Nat}{o oj:Oper}{v:Value}{a:Act}{w:World}{K:Act→World→Prop}(h:Calm P ops S o v a)(hnd:aiA ops=true)(hns:Region.noSelect ops=true){i:Nat}(hi:ops[i]?=some o)(hj:ops[j]?=some oj)
  (hap:o.apart ops oj=true) (hQ:∀ c a w,Q (.panic c) (a.put o.dst v) w→Q (.panic c) a w) (hh:wpOpIn F n P ops Q j K (a.put o.dst v) w):
  wpOpIn F n P ops Q j (fun a' w'=>Calm P ops S o v a'∧K (a'.put o.dst v) w') a w:=by
 obtain ⟨p1,p2,p3⟩:=Oper.apart_spec hap;have hsj:=fun cs b=>Region.noSelect_spec hns j oj cs b hj
 have hsi:=fun cs b=>Region.noSelect_spec hns i o cs b hi
 have hd:=ajJ hnd hj;have back:∀ u w',K ((a.put o.dst v).put oj.dst u) w'→Calm P ops S o v (a.put oj.dst u)∧K ((a.put oj.dst u).put o.dst v) w':=fun u w' hk=>⟨h.put hsi u p3,by rw[← Act.put_comm a v u p2];exact hk⟩
 unfold wpOpIn at *;simp only[hj] at *;rw[wanted_put oj a o.dst v p1,about_put oj w a o.dst v p1] at hh;by_cases hw:Region.wanted oj (yielded ops a.tmps)=true
 ·rw[if_pos hw] at hh ⊢
  unfold Oper.wpIn at *;rw[Oper.semAt_plain F _ _ hd,about_put oj w a o.dst v p1,execOp_put oj hsj a o.dst v p1] at hh;refine ⟨hh.1,?_⟩;rw[Oper.semAt_plain F _ _ hd];have h2:=hh.2;obtain ⟨r,hr⟩:∃ r,(execOp a.eval oj).run P w=r:=⟨_,rfl⟩;rw[hr] at h2 ⊢;match r,h2 with
  | .ok (.value u) w',h2=>exact back u w' h2
  | .ok .skip w',h2=>exact back undef w' h2
  | .ok (.defer d) w',h2=>
   refine ⟨Calm.put (a:={ a with defers:=d :: a.defers }) (oj:=oj) ⟨h.nodefer,h.about,h.yields⟩ hsi undef p3,?_⟩;rw[← Act.put_comm _ v undef p2,← Act.put_defers];exact h2
  | .ok (.enter f args) w',h2=>
   refine ⟨h2.1,h2.2.mono fun e w'' he=>?_⟩;match e,he with
   | .returned u,he=>exact back u w'' he
   | .panicked c,he=>exact hQ _ _ _ he
   | .outgrown,he=>exact he
  | .ok (.row row args) w',h2=>exact ⟨h2.1,h2.2.mono fun u w'' he=>back u w'' he⟩
  | .ok (.round l f tmps assign body) w',h2=>
   refine ⟨h2.1,h2.2.mono fun e w'' he=>?_⟩;match e,he with
   | .returned u,he=>exact back u w'' he
   | .panicked c,he=>exact hQ _ _ _ he
   | .outgrown,he=>exact he
  | .halt (.panic u) w',h2=>exact hQ _ _ _ h2
 ·rw[if_neg hw] at hh ⊢
  exact ⟨hh.1,back undef w hh.2⟩
def aaT (F:Fence)(n:Nat)(P:Program)(md:Region.Mode)(ops:Array Oper)(Q:Exit→Act→World→Prop)(S:World→Prop):Nat→Array Bool→Act→World→Prop
 | 0,listed,a,w=>Region.ready md ops listed=[]∧Q .normal a w
 | fuel+1,listed,a,w=>
  (Region.ready md ops listed=[]→Q .normal a w) ∧
  ∀ i∈Region.ready md ops listed,wpOpIn F n P ops Q i (fun a' w'=>S w'∧aaT F n P md ops Q S fuel (listed.setIfInBounds i true) a' w') a w
theorem aaT.any:∀ (fuel:Nat) (listed:Array Bool) (a:Act) (w:World),aaT F n P md ops Q S fuel listed a w→wpAnyIn F n P md ops Q fuel listed a w
 | 0,_,_,_,h=>h
 | fuel+1,_,_,_,h=>⟨h.1,fun i hi=>wpOpIn_mono (fun a' w' h'=>aaT.any fuel _ a' w' h'.2) (h.2 i hi)⟩
theorem aaT.first {i:Nat}{o:Oper}{v:Value}(hnd:aiA ops=true)(hns:Region.noSelect ops=true)(hi:ops[i]?=some o)(hQ:∀ c a w,Q (.panic c) (a.put o.dst v) w→Q (.panic c) a w):
  ∀ (fuel:Nat) (listed:Array Bool) (a:Act) (w:World),
   (∀ j oj,ops[j]?=some oj→j≠i→listed.getD j true=false→(∀ e∈oj.after,Region.binds md e=true→e.on≠i)→o.apart ops oj=true) →
   i∈Region.ready md ops listed→Calm P ops S o v a→S w→aaT F n P md ops Q S fuel (listed.setIfInBounds i true) (a.put o.dst v) w→aaT F n P md ops Q S (fuel+1) listed a w
 | fuel,listed,a,w,hfree,hr,hy,hS,H=>by
  refine ⟨fun h=>(by rw[h] at hr;cases hr),fun j hj=>?_⟩
  by_cases hji:j=i
  ·subst hji
   exact hy.run hi hS ⟨hS,H⟩
  ·have hj':=ready_mono (i:=i) hj hji
   match fuel,H with
   | 0,H=>rw[H.1] at hj';cases hj'
   | fuel+1,H=>
    obtain ⟨hjun,oj,hoj,hall⟩:=mem_ready.1 hj
    have hnot:∀ e∈oj.after,Region.binds md e=true→e.on≠i:=fun e he hb heq=>by
     have h1:=hall e he hb
     have h0:=(mem_ready.1 hr).1
     rw[heq] at h1
     rcases Nat.lt_or_ge i listed.size with h' | h'
     ·simp[h'] at h0 h1;rw[h0] at h1;cases h1
     ·simp[Array.getElem?_eq_none h'] at h1
    refine wpOpIn_mono ?_ (hy.later hnd hns hi hoj (hfree j oj hoj hji hjun hnot) hQ (H.2 j hj'))
    rintro a' w' ⟨hy',hS',H'⟩
    refine ⟨hS',aaT.first hnd hns hi hQ fuel (listed.setIfInBounds j true) a' w' (fun k ok hk hki hun hno=>?_) (ready_mono hr (Ne.symm hji)) hy' hS' ?_⟩
    ·refine hfree k ok hk hki ?_ hno
     by_cases hjk:j=k
     ·subst hjk;exact hjun
     ·rwa [getD_set_ne true hjk] at hun
    ·rw[Array.setIfInBounds_comm _ _ hji]
     exact H'
theorem ajK {id:Nat}{a:Act}{w:World}(hm:P.follows .mixedOrders=true)(h:aaT F n P .any ops Q S ops.size (Array.replicate ops.size false) a w.drew):(Code.region id ops true).wpIn F n P Q a w:=
 wpIn_region_any hm (aaT.any _ _ _ _ h)
theorem aaT.take (i:Nat)(v:Value){o:Oper}{fuel:Nat}{listed:Array Bool}{a:Act}{w:World}(hi:ops[i]?=some o)(hnd:aiA ops=true)(hns:Region.noSelect ops=true)(hf:Region.free md ops listed i=true)
  (hr:(Region.ready md ops listed).contains i=true) (hQ:∀ c a w,Q (.panic c) (a.put o.dst v) w→Q (.panic c) a w) (hS:S w) (hy:Calm P ops S o v a)
  (h:aaT F n P md ops Q S fuel (listed.setIfInBounds i true) (a.put o.dst v) w):aaT F n P md ops Q S (fuel+1) listed a w:=
 aaT.first hnd hns hi hQ fuel listed a w (Region.free_spec hi hf) (by simpa using hr) hy hS h
theorem aaT.one (i:Nat){o:Oper}{fuel:Nat}{listed:Array Bool}{a:Act}{w:World}(hi:ops[i]?=some o)(hr:Region.ready md ops listed=[i])
  (h:∀ K:Act→World→Prop,(∀ a' w',S w'→aaT F n P md ops Q S fuel (listed.setIfInBounds i true) a' w'→K a' w')→if Region.wanted o (yielded ops a.tmps)=true then Oper.wpIn F n P o a w K Q else (∀ f,o.about P w a.eval=some f→F.fn f)∧K (a.put o.dst undef) w):
  aaT F n P md ops Q S (fuel+1) listed a w:=by
 refine ⟨fun h0=>(by rw[h0] at hr;cases hr),fun j hj=>?_⟩;rw[hr] at hj;obtain rfl:j=i:=by simpa using hj
 exact wpOpIn_step hi (fun K' hK=>h K' (fun a' w' hs hw=>hK a' w' ⟨hs,hw⟩))
theorem aaT.done {fuel:Nat}{listed:Array Bool}{a:Act}{w:World}(hr:Region.ready md ops listed=[])(h:Q .normal a w):aaT F n P md ops Q S fuel listed a w:=by
 cases fuel with
 | zero=>exact ⟨hr,h⟩
 | succ fuel=>exact ⟨fun _=>h,fun i hi=>by rw[hr] at hi;cases hi⟩
end
attribute [local go_sem] Oper.semAt_some
theorem ap8 (x n:Int)(w:World):
  Calls Tryz.prog 125 #[.int .i64 x,.int .i64 n] w fun e w'=>e=.returned (.func (.func 162) #[] #[.pointer (some ⟨w.heap.size,0,none⟩),.pointer (some ⟨w.heap.size+1,0,none⟩)])∧(w.alloc (.cells #[.int .i64 x] 3)).alloc (.cells #[.int .i64 n] 3)=w':=by
 go_enter Tryz.func125,Tryz.ntmps125;go_wp2;go_ret;exact ⟨rfl,rfl⟩
theorem apE (K j q b1 b2:Nat)(w:World)(hK:K≤10)(hj:j≤K)(hq:q<2 ^ (K - j))(h1:w.cell? ⟨b1,0,none⟩=some (.int .i64 ((nd j q:Nat):Int)))(h2:w.cell? ⟨b2,0,none⟩=some (.int .i64 ((2 ^ K:Nat):Int)))(hTab:Tab w)(f:Nat→Nat)(hf:f=fun i=>nd (j+i) (q / 2 ^ i)):
  alK Tryz.prog 162 #[.pointer (some ⟨b1,0,none⟩),.pointer (some ⟨b2,0,none⟩)] (fun i v _ _=>v=#[.int .i64 ((f i:Nat):Int),.int .i64 ((f (i+1):Nat):Int)]) (K - j) (fun k=>k=b1∨k=b2∨k=1) w:=by
 intro l J Jx W hh hl1 hl2 hJ hJx hY h0;have c1:=hh.cell h1 (.inl rfl);have c2:=hh.cell h2 (.inr (.inl rfl));have hT:=hTab.held hh (.inr (.inr rfl));have HJ:=Lib.hid hJ;have HY:=Lib.hid hY;obtain ⟨w1,w2,w3⟩:=way hK hj hq;have HP:Hid (∀ i W,i<K - j→Tab W→Calls Tryz.prog 164 #[.int .i64 ((f i:Nat):Int)] W fun e w'=>e=.returned (.int .i64 ((f (i+1):Nat):Int))∧W=w'):=fun i W hi hT=>by
  have h1:=amB (j+i) (q / 2 ^ i) W (by omega) (arL hK (afh hq (by omega))) hT;rw[← agl] at h1;rw[hf];exact h1
 have HR:Hid (∀ W,Calls Tryz.prog 163 #[.int .i64 ((2 ^ K:Nat):Int)] W fun e w'=>e=.returned (.int .i64 (((2 ^ K:Nat):Int) - 1))∧W=w'):=fun W=>apD _ W (by have:=aig hK;omega)
 have hf0:nd j q=f 0:=by rw[hf];simp
 have hfi:∀ i,nd (j+i) (q / 2 ^ i)=f i:=fun i=>by rw[hf]
 simp only[hfi] at w1 w2;have W1:=Lib.hid (fun i hi=>(w1 i hi).2.2);have W2:=Lib.hid w2;have hdk:K - j≤10:=by omega
 rw[hf0] at c1;have HH:=Lib.hid hh;generalize ((2 ^ K:Nat):Int)=N at *;clear hJ hY w1 w2 w3 hf hf0 hfi h1 h2 hTab hh hq;refine (callsIn_wide (n:=5)).1 ?_;refine callsIn_of_wp Tryz.func162 rfl trivial ?_ rfl;simp only[Tryz.ntmps162,List.append_toArray,List.append_nil,List.size_toArray,List.length_cons,List.length_nil,Nat.reduceAdd,Nat.reduceSub,Array.replicate_succ,Array.replicate_zero,List.push_toArray,List.nil_append,List.cons_append];gi_wp2
 gi_loopw [4] (fun p wr=>∃ (i:Nat) (Y:Nat→Prop),i≤K - j∧p=.int .i64 ((f i:Nat):Int)∧wr.cell? ⟨b2,0,none⟩=some (.int .i64 N)∧Tab wr∧Held (fun k=>k=b1∨k=b2∨k=1) w wr∧J i Y wr∧(∀ k,Y k→W.heap.size≤k∧k<wr.heap.size)∧W.heap.size≤wr.heap.size) (fun p _=>30 - lev (intOf p).toNat)
 case atStart=>exact ⟨0,_,by omega,rfl,c2,hT,HH.out,h0,fun _ h=>h.elim,Nat.le_refl _⟩
 case round=>
  clear c1 c2 hT h0;obtain ⟨i,Y,hi,rfl,hc2,hT,hhw,hjy,hyb,hsz⟩:=hrel;have hmx:Tryz.prog.follows .mixedOrders=true:=by kernel_rfl
  have hls:Tryz.prog.follows .lateStores=true:=by kernel_rfl
  have hroot:=W2.out i hi;by_cases hlt:i<K - j
  ·have hne:¬((f i:Nat):Int)=N - 1:=fun h=>by have:=hroot.1 h;omega
   have hbf:(((f i:Nat):Int) != N - 1)=true:=bne_iff_ne.2 hne;obtain ⟨fn,tmps,assign,body,hy,hR⟩:=HY.out i Y wr #[.int .i64 ((f i:Nat):Int),.int .i64 ((f (i+1):Nat):Int)] 4 hlt hjy hyb hhw rfl;have HLV:=Lib.hid (And.intro (W1.out i hi) (W1.out (i+1) (by omega)));have HTT:=Lib.hid hT;clear hroot hne;gi_wp2_with (first | (refine ⟨trivial,?_⟩;gi_at_call 163;refine (callsIn_wide.2 (HR.out _)).mono ?_;rintro _ _ ⟨rfl,rfl⟩) | (refine ⟨trivial,?_⟩;gi_at_call 164;refine (callsIn_wide.2 (HP.out i _ hlt HTT.out)).mono ?_;rintro _ _ ⟨rfl,rfl⟩))
   refine hR.mono ?_;rintro e w2 ⟨hh2,(⟨rfl,hj2⟩ | ⟨rfl,hx2⟩)⟩
   ·have hc3:=hh2.cell hc2 (.inr (.inr (.inl rfl)))
    have hT3:=HTT.out.held hh2 (.inr (.inr (.inr rfl)));have HT3:=Lib.hid hT3;have HH3:=Lib.hid (hhw.trans (hh2.mono (fun _ h=>.inr h)));clear hy hR hT3;gi_wp2_with (refine ⟨trivial,?_⟩;gi_at_call 164;refine (callsIn_wide.2 (HP.out i _ hlt HT3.out)).mono ?_;rintro _ _ ⟨rfl,rfl⟩)
    go_roundw
    case rel=>exact ⟨i+1,Y,by omega,rfl,hc3,HT3.out,HH3.out,hj2,fun k h=>⟨(hyb k h).1,Nat.lt_of_lt_of_le (hyb k h).2 hh2.size⟩,by have:=hh2.size;omega⟩
    case measure=>have:=HLV.out;simp[intOf];omega
   ·clear hy hR
    gi_wp2
    refine bodyPost_ret (results_none rfl _ _ _) rfl ?_;exact ⟨⟨_,rfl⟩,Y,fun k h=>⟨(hyb k h).1,Nat.lt_of_lt_of_le (hyb k h).2 hh2.size⟩,.inr ⟨i,hlt,hx2⟩⟩
  ·obtain rfl:i=K - j:=by omega
   have heq:((f (K - j):Nat):Int)=N - 1:=hroot.2 rfl;have hbf:(((f (K - j):Nat):Int) != N - 1)=false:=by rw[heq];simp
   clear heq hroot;gi_wp2_with (refine ⟨trivial,?_⟩;gi_at_call 163;refine (callsIn_wide.2 (HR.out _)).mono ?_;rintro _ _ ⟨rfl,rfl⟩)
   go_end0
   exact ⟨⟨_,rfl⟩,Y,hyb,.inl hjy⟩
theorem aiX (A:World):Kp A A.drew:=Kp.drew (a:=A) (b:=A) (Kp.refl A)
def Apt (Z:Nat→Prop)(v:Value):Prop:=∀ g,v.ownBlock=some g→¬Z g
theorem adz {e:TypeId}{Y:Nat→Prop}{A A':World}{b k:Nat}{v:Value}{xs:List Value}(h:A.ownsRow b e 1 v k xs)(hs:Step Y A A')(ho:Apt Y v):A'.ownsRow b e 1 v k xs:=by
 refine ⟨h.1,?_⟩;rcases h.2 with hn | ⟨g,cap,cur,rfl,hb,hg,rest⟩
 ·exact .inl hn
 ·exact .inr ⟨g,cap,cur,rfl,hb,(hs.block g (Array.getElem?_eq_some_iff.1 hg).1 (ho g rfl)).trans hg,rest⟩
structure Coll (tS tE:TypeId)(w0:World)(R:Nat→Prop)(L:List Nat)(Y:Nat→Prop)(A:World)(v:Value):Prop where
 box:Boxed A w0.heap.size tS v
 own:ON tE A w0.heap.size v L
 apt:Apt (fun k=>Y k∨R k) v
 kp:Kp w0 A
theorem Coll.minds {tS tE:TypeId}{w0:World}{R:Nat→Prop}{L:List Nat}{B0:Nat}(hB:w0.heap.size<B0):acZ B0 (fun Y A=>∃ v,Coll tS tE w0 R L Y A v):=by
 rintro Y Y' A A' ⟨v,h1,h2,h3,h4⟩ hY hs hg;have hnB:¬Y w0.heap.size:=fun h=>by have:=hY _ h;omega
 refine ⟨v,(hs.block _ h1.lt hnB).trans h1,adz h2 hs (fun g hg h=>h3 g hg (.inl h)),fun g hgv h=>?_,Below.trans h4 (hs.below h4.size (fun k hk=>by have:=hY k hk;omega))⟩;rcases h with h | h
 ·rcases hg g h with h5 | h5
  ·exact h3 g hgv (.inl h5)
  ·have:=(World.ownsRow.lt h2 g hgv).2;omega
 ·exact h3 g hgv (.inr h)
theorem Coll.next {tS tE:TypeId}(hte:tS≠tE){w0:World}{R:Nat→Prop}{L:List Nat}{x:Nat}{Y:Nat→Prop}{A w1:World}{v v':Value}{tmp:Obj}
  (h:Coll tS tE w0 R L Y A v) (hB:w0.heap.size<A.heap.size) (hYR:∀ k,Y k∨R k→k≠w0.heap.size∧k<A.heap.size)
  (ho:ON tE w1 w0.heap.size v' (L++[x])) (hg:(A.alloc tmp).grownBy w1 v.ownBlock) (hat:v'.ownBlock=v.ownBlock∨v'.ownBlock=some (A.alloc tmp).heap.size):
  w1.cell? ⟨w0.heap.size,0,none⟩=some v∧w1.frozen? ⟨w0.heap.size,0,none⟩=false∧Coll tS tE w0 R (L++[x]) Y (w1.setCell ⟨w0.heap.size,0,none⟩ v') v'∧Held (fun k=>Y k∨R k) A (w1.setCell ⟨w0.heap.size,0,none⟩ v'):=by
 obtain ⟨q1,q2,q3,_,q5⟩:=Boxed.appended h.box hte h.own (by omega) (Nat.le_refl _) ho hg;refine ⟨q1.cell,q1.frozen,⟨q2,q3,fun g hgv hz=>?_,Below.trans h.kp (q5.mono (Nat.le_refl _))⟩,⟨?_,fun k hk hr=>?_⟩⟩
 ·rcases hat with e | e
  ·exact h.apt g (e▸hgv) hz
  ·have h5:=hYR g hz
   rw[e] at hgv;simp at hgv;omega
 ·have:=q5.size;omega
 ·have h5:=hYR k hr
  refine (Below.heap_setCell w1 _ _ k (fun e=>h5.1 (by simpa using e))).trans ((hg.block k (by simp;omega) (fun e=>?_)).trans (Below.heap_alloc A _ k hk));exact h.apt k e.symm hr
theorem aaT.two {F:Fence}{n:Nat}{P:Program}{ops:Array Oper}{Q:Exit→Act→World→Prop}{md:Region.Mode}{S:World→Prop}(i j:Nat){o u:Oper}{fuel:Nat}{listed:Array Bool}{a:Act}{w:World}(hi:ops[i]?=some o)(hj:ops[j]?=some u)(hr:Region.ready md ops listed=[i,j])
  (h1:∀ K:Act→World→Prop,(∀ a' w',S w'→aaT F n P md ops Q S fuel (listed.setIfInBounds i true) a' w'→K a' w')→if Region.wanted o (yielded ops a.tmps)=true then Oper.wpIn F n P o a w K Q else (∀ f,o.about P w a.eval=some f→F.fn f)∧K (a.put o.dst undef) w)
  (h2:∀ K:Act→World→Prop,(∀ a' w',S w'→aaT F n P md ops Q S fuel (listed.setIfInBounds j true) a' w'→K a' w')→if Region.wanted u (yielded ops a.tmps)=true then Oper.wpIn F n P u a w K Q else (∀ f,u.about P w a.eval=some f→F.fn f)∧K (a.put u.dst undef) w):
  aaT F n P md ops Q S (fuel+1) listed a w:=by
 refine ⟨fun h0=>(by rw[h0] at hr;cases hr),fun k hk=>?_⟩;rw[hr] at hk;have hk2:k=i∨k=j:=by simpa using hk
 rcases hk2 with rfl | rfl
 ·exact wpOpIn_step hi (fun K' hK=>h1 K' (fun a' w' hs hw=>hK a' w' ⟨hs,hw⟩))
 ·exact wpOpIn_step hj (fun K' hK=>h2 K' (fun a' w' hs hw=>hK a' w' ⟨hs,hw⟩))
theorem af2 {F:Fence}{n:Nat}{P:Program}{tS tE:TypeId}(S:arW P tS tE)(hte:tS≠tE){o:Oper}{a:Act}{Kq:Act→World→Prop}{Q:Exit→Act→World→Prop}{w0:World}{R:Nat→Prop}{L:List Nat}{Y:Nat→Prop}{A:World}{v:Value}(s y:Operand)(x:Nat)
  (ho:o.op=.call { callee:=.builtin .append,args:=#[s,y],argTypes:=#[tS,tS] }) (hs:a.eval s=v) (hc:Coll tS tE w0 R L Y A v) (hy:a.eval y=.slice (some ⟨A.heap.size,0,none⟩) 1 1) (hL:L.length≤1000)
  (hYR:∀ k,Y k∨R k→k≠w0.heap.size∧k<A.heap.size)
  (hK:∀ g c w1,w1.cell? ⟨w0.heap.size,0,none⟩=some v→w1.frozen? ⟨w0.heap.size,0,none⟩=false→Coll tS tE w0 R (L++[x]) Y (w1.setCell ⟨w0.heap.size,0,none⟩ (.slice (some ⟨g,0,none⟩) (L.length+1) c)) (.slice (some ⟨g,0,none⟩) (L.length+1) c) →
   Held (fun k=>Y k∨R k) A (w1.setCell ⟨w0.heap.size,0,none⟩ (.slice (some ⟨g,0,none⟩) (L.length+1) c))→Kq (a.put o.dst (.slice (some ⟨g,0,none⟩) (L.length+1) c)) w1):
  Oper.wpIn F n P o a (A.alloc (.cells #[iv x] tE)) Kq Q:=by
 obtain ⟨i,z,hi,hz,hsize,hby,hzc⟩:=S.hi;have hAB:w0.heap.size<A.heap.size:=hc.box.lt;have hown:=ON.kp hc.own ((Kp.refl A).alloc (.cells #[iv x] tE));unfold ON at hown;rw[List.length_map] at hown;obtain ⟨v',w1,hr,h2,h3,_,h5⟩:=run_append_own_at (P:=P) _ w0.heap.size tS o.type tE i z 1 i.bytes S.ht hi hz hsize rfl hzc (by decide) v L.length (L.map iv) hown ⟨A.heap.size,0,none⟩ 1 1 [iv x] rfl (cell_one_new A _ _) (by intro u hu;simp at hu;subst hu;rfl) (by unfold maxLen;omega) (by have:=Nat.mul_le_mul (show L.length+1≤1001 by omega) hby;omega) (by simp;omega);obtain ⟨g,c,rfl⟩:=ownsRow_succ h2;obtain ⟨q1,q2,q3,q4⟩:=Coll.next hte hc hAB hYR (x:=x) (by unfold ON;rw[List.map_append,List.length_append,List.length_map];exact h2) h3 h5;unfold Oper.wpIn;refine ⟨by simp[Oper.about,ho,resolve,Target.leads,Sem.run_pure],?_⟩;rw[Oper.semAt_plain F _ _ (by rw[ho];intro c hc';cases hc')];simp[execOp,ho,resolve,invoke,builtin,hs,hy,hr,Result.andThen];exact hK _ _ _ q1 q2 q3 q4
theorem Coll.on {tS tE:TypeId}{w0:World}{R:Nat→Prop}{L:List Nat}{Y:Nat→Prop}{A A':World}{v:Value}(h:Coll tS tE w0 R L Y A v)(k:Kp A A'):Coll tS tE w0 R L Y A' v:=
 ⟨(k.block _ h.box.lt).trans h.box,ON.kp h.own k,h.apt,Below.trans h.kp (k.mono h.kp.size)⟩
theorem ab3 {F:Fence}{n:Nat}{P:Program}{tS tE:TypeId}(S:arW P tS tE)(hte:tS≠tE){o:Oper}{a:Act}{Kq:Act→World→Prop}{Q:Exit→Act→World→Prop}{w0:World}{R:Nat→Prop}{L:List Nat}{Y:Nat→Prop}{A:World}{v:Value}(s y:Operand)(x:Nat)
  (ho:o.op=.call { callee:=.builtin .append,args:=#[s,y],argTypes:=#[tS,tS] }) (hc:Coll tS tE w0 R L Y A v) (hL:L.length≤1000)
  (hYR:∀ k,Y k∨R k→k≠w0.heap.size∧k<A.heap.size) (hs:a.eval s=v) (hy:a.eval y=.slice (some ⟨A.heap.size,0,none⟩) 1 1)
  (hK:∀ g c w1,w1.cell? ⟨w0.heap.size,0,none⟩=some v→w1.frozen? ⟨w0.heap.size,0,none⟩=false→Coll tS tE w0 R (L++[x]) Y (w1.setCell ⟨w0.heap.size,0,none⟩ (.slice (some ⟨g,0,none⟩) (L.length+1) c)) (.slice (some ⟨g,0,none⟩) (L.length+1) c) →
   Held (fun k=>Y k∨R k) A.drew (w1.setCell ⟨w0.heap.size,0,none⟩ (.slice (some ⟨g,0,none⟩) (L.length+1) c))→Kq (a.put o.dst (.slice (some ⟨g,0,none⟩) (L.length+1) c)) w1):
  Oper.wpIn F n P o a (A.alloc (.cells #[.int .i64 (x:Int)] tE)).drew Kq Q:=
 af2 S hte s y x ho hs (hc.on (Kp.refl A).drew) hy hL hYR hK
attribute [local go_sem] Oper.semAt_some
theorem age:34≠3:=by decide
theorem aoo (K j q:Nat)(x n:Int)(W:World)(hx:x=((nd j q:Nat):Int))(hn:n=((2 ^ K:Nat):Int))(hK:K≤10)(hj:j≤K)(hq:q<2 ^ (K - j))(hT:Tab W):
  alK Tryz.prog 162 #[.pointer (some ⟨W.heap.size,0,none⟩),.pointer (some ⟨W.heap.size+1,0,none⟩)] (fun i v _ _=>v=#[.int .i64 ((nd (j+i) (q / 2 ^ i):Nat):Int),.int .i64 ((nd (j+(i+1)) (q / 2 ^ (i+1)):Nat):Int)]) (K - j) (fun k=>k=W.heap.size∨k=W.heap.size+1∨k=1) ((W.alloc (.cells #[.int .i64 x] 3)).alloc (.cells #[.int .i64 n] 3)):=by
 subst hx hn;refine apE K j q W.heap.size (W.heap.size+1) _ hK hj hq ?_ ?_ ((hT.kp ((Kp.refl _).alloc _)).kp ((Kp.refl _).alloc _)) _ rfl
 ·exact ((Boxed.new W 3 (.int .i64 ((nd j q:Nat):Int))).alloc _).cell
 ·have:=(Boxed.new (W.alloc (.cells #[.int .i64 ((nd j q:Nat):Int)] 3)) 3 (.int .i64 ((2 ^ K:Nat):Int))).cell
  rwa [World.size_alloc] at this
theorem afQ (K j q:Nat)(w:World)(hK:K≤10)(hj:j≤K)(hq:q<2 ^ (K - j))(hT:Tab w):
  Calls Tryz.prog 92 #[.int .i64 ((nd j q:Nat):Int),.int .i64 ((2 ^ K:Nat):Int)] w fun e w'=>(∃ v,e=.returned (.tuple #[v,.int .i64 0])∧ON 3 w' w.heap.size v (aag K j q))∧Kp w w':=by
 have S:=adM;obtain ⟨i0,z0,hi0,hz0,hz1,hz2,hz3⟩:=S.hi;have hin:=(acY ((nd j q:Nat):Int) ((2 ^ K:Nat):Int)).2 ⟨K,j,q,hK,rfl,rfl,hj,hq⟩;have HN:=Lib.hid (aei ((nd j q:Nat):Int) ((2 ^ K:Nat):Int));rw[hin] at HN;obtain ⟨X,hX⟩:∃ X:Int,X=((nd j q:Nat):Int):=⟨_,rfl⟩;obtain ⟨N,hN⟩:∃ N:Int,N=((2 ^ K:Nat):Int):=⟨_,rfl⟩;rw[← hX,← hN] at HN ⊢;have HU:=Lib.hid (fun W hTW=>aoo K j q X N W hX hN hK hj hq hTW);have HTK:Hid (∀ i,i<K - j→(aag K j q).take (i+1)=(aag K j q).take i++[nd (j+(i+1)) (q / 2 ^ (i+1))]):=fun i hi=>by
  rw[show j+(i+1)=j+1+i by omega];exact ahO K j q i hi
 have HE:Hid ((aag K j q).take (K - j)=aag K j q):=List.take_of_length_le (by rw[aca];omega);have HLN:Hid (∀ i,((aag K j q).take i).length≤1000):=fun i=>by rw[List.length_take,aca];omega
 obtain ⟨f,hf⟩:∃ f:Nat→Nat,f=fun i=>nd (j+i) (q / 2 ^ i):=⟨_,rfl⟩
 have hfi:∀ i,nd (j+i) (q / 2 ^ i)=f i:=fun i=>by rw[hf]
 simp only[hfi] at HU HTK;generalize aag K j q=PL at *;generalize K - j=D at *;clear hX hN hin hq hj hK hf hfi;refine (callsIn_wide (n:=4)).1 ?_;refine callsIn_of_wp_marks Tryz.func92 rfl trivial ?_ rfl;refine wpIn_wide.2 ?_;simp only[Tryz.ntmps92,List.append_toArray,List.size_toArray,List.length_nil,List.length_cons,Nat.reduceAdd,Nat.reduceSub,Array.replicate_succ,Array.replicate_zero,List.push_toArray,List.nil_append,List.cons_append];go_wp2_with fail;refine (HN.out _).mono ?_;rintro _ _ ⟨rfl,rfl⟩;go_wp2_with fail;obtain ⟨W1,hW1⟩:∃ W1,w.alloc (.cells #[.slice none 0 0] 34)=W1:=⟨_,rfl⟩;rw[hW1];have hb1:Boxed W1 w.heap.size 34 (.slice none 0 0):=by rw[← hW1];exact Boxed.new _ _ _
 have k1:Kp w W1:=by rw[← hW1];exact (Kp.refl _).alloc _
 have hs1:W1.heap.size=w.heap.size+1:=by rw[← hW1];simp
 refine (ap8 _ _ _).mono ?_;rintro _ W2 ⟨rfl,hW2⟩;have k2:Kp W1 W2:=by rw[← hW2];exact ((Kp.refl _).alloc _).alloc _
 have hs2:W2.heap.size=W1.heap.size+2:=by rw[← hW2];simp
 have hb2:Boxed W2 w.heap.size 34 (.slice none 0 0):=(k2.block _ hb1.lt).trans hb1;have HUH:=HU.out W1 (hT.kp k1);rw[hW2] at HUH;have kw2:=Below.trans k1 (k2.mono (by omega));have htl:=hT.lt;have HUH2:=Lib.hid HUH;have HS:=Lib.hid (And.intro hs1 hs2);clear hW1 hW2 hb1 HU k1 k2 HUH HN hs1 hs2;go_wp2_with fail;have hE:∀ args w,(callFunc 162 args).run Tryz.prog w=.ok (.enter 162 args) w:=enters_of Tryz.func162 (by kernel_rfl) rfl;obtain ⟨R,hR⟩:∃ R:Nat→Prop,(fun k=>k=W1.heap.size∨k=W1.heap.size+1∨k=1)=R:=⟨_,rfl⟩;have hRb:∀ k,R k→w.heap.size<k∧k<W2.heap.size∨k<w.heap.size:=fun k hk=>by have:=HS.out;rw[← hR] at hk;rcases hk with rfl | rfl | rfl <;> omega
 rw[hR] at HUH2;clear hR;refine acJ (gf:=162) (lb:=#[.pointer (some ⟨W1.heap.size,0,none⟩),.pointer (some ⟨W1.heap.size+1,0,none⟩)]) rfl hE (Kp.refl W2) (fun k hk=>by have:=hRb k hk;have:=HS.out;omega) HUH2.out ?sz
   (fun i Y A=>∃ v,Coll 34 3 w R (PL.take i) Y A v) (fun c i Y A=>False) ?mI ?mIx ?TT ?h0
   (fun v a' _=>∃ x y:Int,v=#[.int .i64 x,.int .i64 y]∧a'={ tmps:=#[.int .i64 X,.int .i64 N,undef,undef,.slice none 0 0,.int .i64 0,.pointer (some ⟨w.heap.size,0,none⟩),undef,.int .i64 y,.int .i64 X,.int .i64 N,.bool true,.bool false,.int .i64 X,.int .i64 N,.func (.func 162) #[] #[.pointer (some ⟨W1.heap.size,0,none⟩),.pointer (some ⟨W1.heap.size+1,0,none⟩)],.int .i64 x,.int .i64 y,undef,undef,undef,undef,undef],defers:=[] })
   (fun _ _ _ _ _ _ h _ _=>h) ?assign ?body ?done ?stop
 case h0=>exact ⟨_,hb2,by rw[List.take_zero];exact ON.nil _ _ _,(fun g hg=>by cases hg),kw2⟩
 case sz=>intro i v Y A h;rw[h];rfl
 case mI=>intro i;exact Coll.minds (by have:=HS.out;omega)
 case mIx=>intro c i Y Y' A A' h;exact h.elim
 case TT=>intro i v Yi Y A A' l o h _ _ _ _ _;exact h
 case assign=>
  intro l i Y Yi v A Kk hI hTv hK;subst hTv;gi_wp2
  exact hK _ _ (Kp.refl _) ⟨_,_,rfl,rfl⟩
 case body=>
  rintro l i Y v a' A hi ⟨u,hc⟩ hyb hRA hTv ⟨x,y,hxy,rfl⟩;subst hTv;simp only[Array.mk.injEq,List.cons.injEq,Value.int.injEq,true_and,and_true] at hxy;obtain ⟨rfl,rfl⟩:=hxy;have hcell:=hc.box.cell;have hne0:((PL.take i).map iv).length≤1000:=by rw[List.length_map];exact HLN.out i
  have hAB:w.heap.size<A.heap.size:=hc.box.lt;have hYR:∀ k,Y k∨R k→k≠w.heap.size∧k<A.heap.size:=fun k hk=>by
   have:=HS.out;have h3:=hRA.size;rcases hk with h | h
   ·have:=hyb k h;omega
   ·have:=hRb k h;omega
  have HTI:=Lib.hid (HTK.out i hi);have HY:=Lib.hid hYR;have HC:=Lib.hid hc;clear hYR hyb hRA hc;gi_wp2_with (gi_at_builtin;refine wpListIn_append_own_at _ rfl _ _ 34 rfl w.heap.size 3 i0 z0 1 i0.bytes S.ht hi0 hz0 hz1 rfl hz3 (by decide) u _ ((PL.take i).map iv) rfl (ON.kp HC.out.own ((Kp.refl _).alloc _)) ⟨A.heap.size,0,none⟩ 1 1 [iv (f (i+1))] rfl rfl (cell_one_new A _ _) (by intro u hu;simp at hu;subst hu;rfl) (by unfold maxLen;omega) (by have:=Nat.mul_le_mul (show ((PL.take i).map iv).length+1≤1001 by omega) hz2;omega) (by simp;omega) ?_;intro v' w1 ho1 hg1 _ hat;obtain ⟨gv,cv,rfl⟩:=ownsRow_succ ho1;obtain ⟨cx,fz,cl,hd⟩:=Coll.next age HC.out hAB HY.out (x:=f (i+1)) (by unfold ON;rw[List.map_append,List.length_append];exact ho1) hg1 hat)
  simp only[List.length_map,List.length_take] at cl hd;rw[HTI.out];exact ⟨hd,_,cl⟩
 case done=>
  rintro D' Y W hD hYD hYb ⟨u,hc⟩ hd;rename_i Qp Kk hKk
  rw[HE.out] at hc;obtain ⟨au,nu,cu,rfl⟩:=(ON.rn hc.own).sl;have c1:=hc.box.cell;simp only[Exit.inBlock,Exit.then];refine hKk _ _ ?_;go_wp2;have hst:Step (fun k=>k=D') W (W.putObj D' (.deferred none)):=(Step.refl _ W).putObj _ _ (.inr rfl);refine ⟨by simp,.inl ⟨_,_,rfl,run_takeDeferred hd,?_⟩⟩;refine ⟨_,results_tmp2 rfl _ _ _,⟨_,rfl,?_⟩,Below.trans hc.kp (hst.below hc.kp.size (fun k hk=>by have:=HS.out;omega))⟩;exact (adz hc.own hst (fun g hg e=>by subst e;exact hc.apt g hg (.inl hYD)))
 case stop=>intro D' c i Y W hD hYD hYb hi h;exact h.elim
attribute [local go_sem] Oper.semAt_some
theorem ahE (K j q:Nat)(w:World)(hK:K≤10)(hj:j≤K)(hq:q<2 ^ (K - j))(hT:Tab w):
  Calls Tryz.prog 88 #[.int .i64 ((nd j q:Nat):Int),.int .i64 ((2 ^ K:Nat):Int)] w fun e w'=>(∃ v,e=.returned (.tuple #[v,.int .i64 0])∧ON 3 w' w.heap.size v (aaF K j q))∧Kp w w':=by
 have S:=adM;obtain ⟨i0,z0,hi0,hz0,hz1,hz2,hz3⟩:=S.hi;have hin:=(acY ((nd j q:Nat):Int) ((2 ^ K:Nat):Int)).2 ⟨K,j,q,hK,rfl,rfl,hj,hq⟩;have HN:=Lib.hid (aei ((nd j q:Nat):Int) ((2 ^ K:Nat):Int));rw[hin] at HN;obtain ⟨X,hX⟩:∃ X:Int,X=((nd j q:Nat):Int):=⟨_,rfl⟩;obtain ⟨N,hN⟩:∃ N:Int,N=((2 ^ K:Nat):Int):=⟨_,rfl⟩;rw[← hX,← hN] at HN ⊢;have HU:=Lib.hid (fun W hTW=>aoo K j q X N W hX hN hK hj hq hTW);have HTK:Hid (∀ i,i<K - j→(aaF K j q).take (i+1)=(aaF K j q).take i++[nd (j+i) (sq (q / 2 ^ i))]):=fun i hi=>afF K j q i hi
 have HSB:Hid (∀ i W,i<K - j→Calls Tryz.prog 126 #[.int .i64 ((nd (j+i) (q / 2 ^ i):Nat):Int),.int .i64 ((nd (j+(i+1)) (q / 2 ^ (i+1)):Nat):Int)] W fun e w'=>e=.returned (.int .i64 ((nd (j+i) (sq (q / 2 ^ i)):Nat):Int))∧W=w'):=fun i W hi=>by
  rw[agl];exact ak2 (j+i) (q / 2 ^ i) W (by omega) (arL hK (afh hq (by omega)))
 have HE:Hid ((aaF K j q).take (K - j)=aaF K j q):=List.take_of_length_le (by rw[ab5];omega);have HLN:Hid (∀ i,((aaF K j q).take i).length≤1000):=fun i=>by rw[List.length_take,ab5];omega
 obtain ⟨f,hf⟩:∃ f:Nat→Nat,f=fun i=>nd (j+i) (q / 2 ^ i):=⟨_,rfl⟩
 have hfi:∀ i,nd (j+i) (q / 2 ^ i)=f i:=fun i=>by rw[hf]
 obtain ⟨g,hg⟩:∃ g:Nat→Nat,g=fun i=>nd (j+i) (sq (q / 2 ^ i)):=⟨_,rfl⟩
 have hgi:∀ i,nd (j+i) (sq (q / 2 ^ i))=g i:=fun i=>by rw[hg]
 simp only[hfi,hgi] at HU HTK HSB;generalize aaF K j q=PL at *;generalize K - j=D at *;clear hX hN hin hq hj hK hf hfi hg hgi;refine (callsIn_wide (n:=4)).1 ?_;refine callsIn_of_wp_marks Tryz.func88 rfl trivial ?_ rfl;refine wpIn_wide.2 ?_;simp only[Tryz.ntmps88,List.append_toArray,List.size_toArray,List.length_nil,List.length_cons,Nat.reduceAdd,Nat.reduceSub,Array.replicate_succ,Array.replicate_zero,List.push_toArray,List.nil_append,List.cons_append];go_wp2_with fail;refine (HN.out _).mono ?_;rintro _ _ ⟨rfl,rfl⟩;go_wp2_with fail;obtain ⟨W1,hW1⟩:∃ W1,w.alloc (.cells #[.slice none 0 0] 34)=W1:=⟨_,rfl⟩;rw[hW1];have hb1:Boxed W1 w.heap.size 34 (.slice none 0 0):=by rw[← hW1];exact Boxed.new _ _ _
 have k1:Kp w W1:=by rw[← hW1];exact (Kp.refl _).alloc _
 have hs1:W1.heap.size=w.heap.size+1:=by rw[← hW1];simp
 refine (ap8 _ _ _).mono ?_;rintro _ W2 ⟨rfl,hW2⟩;have k2:Kp W1 W2:=by rw[← hW2];exact ((Kp.refl _).alloc _).alloc _
 have hs2:W2.heap.size=W1.heap.size+2:=by rw[← hW2];simp
 have hb2:Boxed W2 w.heap.size 34 (.slice none 0 0):=(k2.block _ hb1.lt).trans hb1;have HUH:=HU.out W1 (hT.kp k1);rw[hW2] at HUH;have kw2:=Below.trans k1 (k2.mono (by omega));have htl:=hT.lt;have HUH2:=Lib.hid HUH;have HS:=Lib.hid (And.intro hs1 hs2);clear hW1 hW2 hb1 HU k1 k2 HUH HN hs1 hs2;go_wp2_with fail;have hE:∀ args w,(callFunc 162 args).run Tryz.prog w=.ok (.enter 162 args) w:=enters_of Tryz.func162 (by kernel_rfl) rfl;obtain ⟨R,hR⟩:∃ R:Nat→Prop,(fun k=>k=W1.heap.size∨k=W1.heap.size+1∨k=1)=R:=⟨_,rfl⟩;have hRb:∀ k,R k→w.heap.size<k∧k<W2.heap.size∨k<w.heap.size:=fun k hk=>by have:=HS.out;rw[← hR] at hk;rcases hk with rfl | rfl | rfl <;> omega
 rw[hR] at HUH2;clear hR;refine acJ (gf:=162) (lb:=#[.pointer (some ⟨W1.heap.size,0,none⟩),.pointer (some ⟨W1.heap.size+1,0,none⟩)]) rfl hE (Kp.refl W2) (fun k hk=>by have:=hRb k hk;have:=HS.out;omega) HUH2.out ?sz
   (fun i Y A=>∃ v,Coll 34 3 w R (PL.take i) Y A v) (fun c i Y A=>False) ?mI ?mIx ?TT ?h0
   (fun v a' _=>∃ x y:Int,v=#[.int .i64 x,.int .i64 y]∧a'={ tmps:=#[.int .i64 X,.int .i64 N,undef,undef,.slice none 0 0,.int .i64 0,.pointer (some ⟨w.heap.size,0,none⟩),.int .i64 x,.int .i64 y,.int .i64 X,.int .i64 N,.bool true,.bool false,.int .i64 X,.int .i64 N,.func (.func 162) #[] #[.pointer (some ⟨W1.heap.size,0,none⟩),.pointer (some ⟨W1.heap.size+1,0,none⟩)],.int .i64 x,.int .i64 y,undef,undef,undef,undef,undef,undef,undef],defers:=[] })
   (fun _ _ _ _ _ _ h _ _=>h) ?assign ?body ?done ?stop
 case h0=>exact ⟨_,hb2,by rw[List.take_zero];exact ON.nil _ _ _,(fun g hg=>by cases hg),kw2⟩
 case sz=>intro i v Y A h;rw[h];rfl
 case mI=>intro i;exact Coll.minds (by have:=HS.out;omega)
 case mIx=>intro c i Y Y' A A' h;exact h.elim
 case TT=>intro i v Yi Y A A' l o h _ _ _ _ _;exact h
 case assign=>
  intro l i Y Yi v A Kk hI hTv hK;subst hTv;gi_wp2
  exact hK _ _ (Kp.refl _) ⟨_,_,rfl,rfl⟩
 case body=>
  rintro l i Y v a' A hi ⟨u,hc⟩ hyb hRA hTv ⟨x,y,hxy,rfl⟩;subst hTv;simp only[Array.mk.injEq,List.cons.injEq,Value.int.injEq,true_and,and_true] at hxy;obtain ⟨rfl,rfl⟩:=hxy;have hcell:=hc.box.cell;have hne0:((PL.take i).map iv).length≤1000:=by rw[List.length_map];exact HLN.out i
  have hAB:w.heap.size<A.heap.size:=hc.box.lt;have hYR:∀ k,Y k∨R k→k≠w.heap.size∧k<A.heap.size:=fun k hk=>by
   have:=HS.out;have h3:=hRA.size;rcases hk with h | h
   ·have:=hyb k h;omega
   ·have:=hRb k h;omega
  have HTI:=Lib.hid (HTK.out i hi);have HY:=Lib.hid hYR;have HC:=Lib.hid hc;clear hYR hyb hRA hc;have hmx:Tryz.prog.follows .mixedOrders=true:=by kernel_rfl
  have HS1:=Lib.hid (fun W=>HSB.out i W hi);gi_wp2
  have cd:A.drew.cell? ⟨w.heap.size,0,none⟩=some u:=hcell;refine ajK (S:=fun _=>True) hmx ?_;refine aaT.take 1 (.int .i64 ((f i:Nat):Int)) rfl (by kernel_rfl) (by kernel_rfl) (by kernel_rfl) (by kernel_rfl) (fun _ _ _ h=>h) trivial ⟨fun c e=>(by cases e),fun _=>rfl,.inl ⟨rfl,fun W' hW'=>?_⟩⟩ ?_
  ·go_simp
  refine aaT.take 2 (.int .i64 ((f (i+1):Nat):Int)) rfl (by kernel_rfl) (by kernel_rfl) (by kernel_rfl) (by kernel_rfl) (fun _ _ _ h=>h) trivial ⟨fun c e=>(by cases e),fun _=>rfl,.inl ⟨rfl,fun W' hW'=>?_⟩⟩ ?_
  ·go_simp
  go_simp;refine aaT.two 0 3 rfl rfl (by kernel_rfl) (fun K2 hK=>?_) (fun K2 hK=>?_)
  ·go_simp
   refine hK _ _ trivial ?_;clear hK K2;refine aaT.one 3 rfl (by kernel_rfl) (fun K2 hK=>?_);go_simp;gi_wp2_with (refine ⟨trivial,?_⟩;gi_at_call 126;refine (CallsIn.inRound l (callsIn_wide.2 (HS1.out _))).mono ?_;rintro _ _ ⟨rfl,rfl⟩)
   refine hK _ _ trivial ?_;clear hK K2;refine aaT.one 4 rfl (by kernel_rfl) (fun K2 hK=>?_);go_simp;refine hK _ _ trivial ?_;clear hK K2;refine aaT.one 5 rfl (by kernel_rfl) (fun K2 hK=>?_);rw[if_pos (by rfl)];refine ab3 S age _ _ (g i) rfl HC.out (HLN.out i) HY.out rfl rfl ?_;intro gv cv w1 cx fz cl hd;refine hK _ _ trivial ?_;clear hK K2;refine aaT.one 6 rfl (by kernel_rfl) (fun K2 hK=>?_);go_simp;refine hK _ _ trivial ?_;clear hK K2;refine aaT.done (by kernel_rfl) ?_;simp only[List.length_take] at cl hd;refine ⟨(Held.of_kp (aiX A)).trans hd,.inl ⟨rfl,.slice (some ⟨gv,0,none⟩) (min i PL.length+1) cv,?_⟩⟩;rw[HTI.out];exact cl
  ·go_simp
   gi_wp2_with (refine ⟨trivial,?_⟩;gi_at_call 126;refine (CallsIn.inRound l (callsIn_wide.2 (HS1.out _))).mono ?_;rintro _ _ ⟨rfl,rfl⟩)
   refine hK _ _ trivial ?_;clear hK K2;refine aaT.two 0 4 rfl rfl (by kernel_rfl) (fun K2 hK=>?_) (fun K2 hK=>?_)
   ·go_simp
    refine hK _ _ trivial ?_;clear hK K2;refine aaT.one 4 rfl (by kernel_rfl) (fun K2 hK=>?_);go_simp;refine hK _ _ trivial ?_;clear hK K2;refine aaT.one 5 rfl (by kernel_rfl) (fun K2 hK=>?_);rw[if_pos (by rfl)];refine ab3 S age _ _ (g i) rfl HC.out (HLN.out i) HY.out rfl rfl ?_;intro gv cv w1 cx fz cl hd;refine hK _ _ trivial ?_;clear hK K2;refine aaT.one 6 rfl (by kernel_rfl) (fun K2 hK=>?_);go_simp;refine hK _ _ trivial ?_;clear hK K2;refine aaT.done (by kernel_rfl) ?_;simp only[List.length_take] at cl hd;refine ⟨(Held.of_kp (aiX A)).trans hd,.inl ⟨rfl,.slice (some ⟨gv,0,none⟩) (min i PL.length+1) cv,?_⟩⟩;rw[HTI.out];exact cl
   ·go_simp
    refine hK _ _ trivial ?_;clear hK K2;refine aaT.one 0 rfl (by kernel_rfl) (fun K2 hK=>?_);go_simp;refine hK _ _ trivial ?_;clear hK K2;refine aaT.one 5 rfl (by kernel_rfl) (fun K2 hK=>?_);rw[if_pos (by rfl)];refine ab3 S age _ _ (g i) rfl HC.out (HLN.out i) HY.out rfl rfl ?_;intro gv cv w1 cx fz cl hd;refine hK _ _ trivial ?_;clear hK K2;refine aaT.one 6 rfl (by kernel_rfl) (fun K2 hK=>?_);go_simp;refine hK _ _ trivial ?_;clear hK K2;refine aaT.done (by kernel_rfl) ?_;simp only[List.length_take] at cl hd;refine ⟨(Held.of_kp (aiX A)).trans hd,.inl ⟨rfl,.slice (some ⟨gv,0,none⟩) (min i PL.length+1) cv,?_⟩⟩;rw[HTI.out];exact cl
 case done=>
  rintro D' Y W hD hYD hYb ⟨u,hc⟩ hd;rename_i Qp Kk hKk
  rw[HE.out] at hc;obtain ⟨au,nu,cu,rfl⟩:=(ON.rn hc.own).sl;have c1:=hc.box.cell;simp only[Exit.inBlock,Exit.then];refine hKk _ _ ?_;go_wp2;have hst:Step (fun k=>k=D') W (W.putObj D' (.deferred none)):=(Step.refl _ W).putObj _ _ (.inr rfl);refine ⟨by simp,.inl ⟨_,_,rfl,run_takeDeferred hd,?_⟩⟩;refine ⟨_,results_tmp2 rfl _ _ _,⟨_,rfl,?_⟩,Below.trans hc.kp (hst.below hc.kp.size (fun k hk=>by have:=HS.out;omega))⟩;exact adz hc.own hst (fun g hg e=>by subst e;exact hc.apt g hg (.inl hYD))
 case stop=>intro D' c i Y W hD hYD hYb hi h;exact h.elim
end Go.Proofs.YthmhklmkgkfcpaaGreatDoor
