import Derived.Test.YtbhkdlpdolioaaaP4
import Derived.RangeFuncNested
import Derived.RangeFuncBound
import Derived.RangeFuncCalls
import Derived.RangeFuncLeaves
import Derived.RangeFuncFrom
import Derived.Shelf.Abstract
import Derived.Shelf.RegionOpen
import Derived.OwnWalkIn
import Derived.TacticsInMore
import Derived.LoopNIn
import Derived.LoopIn
set_option linter.unusedVariables false
set_option linter.unusedSimpArgs false
set_option maxHeartbeats 8000000
set_option maxRecDepth 100000
namespace Go.Proofs.Ytbhkdlpdolioaaa
open Go.RowKit
structure Same (X:Nat→Prop)(A B:World):Prop where
 size:A.heap.size≤B.heap.size
 block:∀ k,k<A.heap.size→¬X k→B.heap[k]?=A.heap[k]?
theorem Same.refl (X:Nat→Prop)(A:World):Same X A A:=⟨Nat.le_refl _,fun _ _ _=>rfl⟩
theorem Same.trans {X:Nat→Prop}{A B C:World}(h:Same X A B)(k:Same X B C):Same X A C:=
 ⟨Nat.le_trans h.size k.size,fun i hi hx=>(k.block i (Nat.lt_of_lt_of_le hi h.size) hx).trans (h.block i hi hx)⟩
theorem Same.of_kp {X:Nat→Prop}{A B:World}(h:Kp A B):Same X A B:=⟨h.size,fun k hk _=>h.block k hk⟩
theorem Same.setCell {X:Nat→Prop}{A B:World}(h:Same X A B)(p:Addr)(v:Value)(hx:X p.block):Same X A (B.setCell p v):=
 ⟨by simpa using h.size,fun k hk hn=>(Below.heap_setCell B p v k (fun e=>hn (e▸hx))).trans (h.block k hk hn)⟩
theorem Same.mono {X Y:Nat→Prop}{A B:World}(h:Same X A B)(hxy:∀ k,X k→Y k):Same Y A B:=⟨h.size,fun k hk hn=>h.block k hk (fun hx=>hn (hxy k hx))⟩
theorem Same.drew {X:Nat→Prop}{A B:World}(h:Same X A B):Same X A B.drew:=⟨h.size,h.block⟩
theorem Same.drewN {X:Nat→Prop}{A B:World}(h:Same X A B)(n:Nat):Same X A (B.drewN n):=h.trans (Same.of_kp ((Kp.refl B).drewN n))
theorem aaE {B D:Nat}{a W:World}(h:Below B a W)(hD:B≤D)(hB:B≤W.heap.size)(o:Obj):Below B a (W.putObj D o):=
 Below.grown h (grownBy_putObj' W D o) hB (fun k e=>by cases e;exact hD)
section
variable {F : Fence} {n : Nat} {P : Program}
def acN (F:Fence)(m:Nat)(P:Program)(gf:Nat)(lb:Array Value)(encs:Nat→Array Value)(N:Nat)(X:Nat→Prop)(w:World):Prop:=
 ∀ (l:Nat) (J:Nat→World→Prop) (W:World),Below w.heap.size w W→w.heap.size≤l→l<W.heap.size→(∀ i A B,J i A→Below W.heap.size A B→J i B) →
  (∀ i A,i<N→J i A→YieldAt F (m - 1) P l (encs i) A fun e B=>e=.returned (.bool true)∧J (i+1) B∧Same (fun k=>k=l∨X k) A B) →
  J 0 W→CallsIn F m P gf (#[.func (.yield l) #[] #[]]++lb) W fun e B=>(∃ v,e=.returned v)∧J N B
theorem aaw {g:Operand}{ps:Array Tmp}{assign body:Code}{Q:Exit→Act→World→Prop}{a:Act}{w:World}
  (hro:F.round=none) (h1:1≤n) {gf:Nat} {lb:Array Value} (hg:a.eval g=.func (.func gf) #[] lb) (hFg:F.fn gf) (eg:∀ args w,(callFunc gf args).run P w=.ok (.enter gf args) w)
  {encs:Nat→Array Value} {N:Nat} {X:Nat→Prop} (hX:∀ k,X k→k<w.heap.size) (hit:acN F (n - 1) P gf lb encs N X w) (hps:∀ i,(encs i).size=ps.size)
  (I:Nat→World→Prop) (hI:∀ i A B,I i A→Below w.heap.size A B→I i B) (h0:I 0 w) (a₁:Nat→Act)
  (hassign:∀ (l:Nat) (i:Nat) (W:World) (K:Act→World→Prop),K (a₁ i) W →
   assign.wpIn (F.inRound l) (n - 1 - 1) P (Exit.then K (fun _ _ _=>False)) { tmps:=(ps.zip (encs i)).foldl (fun t (p,v)=>t.setIfInBounds p v) a.tmps,defers:=[] } W)
  (hbody:∀ (l:Nat) (i:Nat) (W:World),I i W→i<N→body.wpIn (F.inRound l) (n - 1 - 1) P (fun e _ W'=>e=.normal∧Same X W W'∧I (i+1) W') (a₁ i) W)
  (hdone:∀ (D:Nat) (W:World),w.heap.size≤D→I N W→W.heap[D]?=some (.deferred (some []))→Q .normal { a with defers:={ target:=.collected D,args:=#[] } :: a.defers } W):
  (Code.rangeFunc g ps assign body).wpIn F n P Q a w:=by
 refine wpIn_rangeFunc ?_;intro fn hfn;rw[hro];let rec':LoopState→Loop:=fun st=>{ state:=st,pending:=none,fn,tmps:=a.tmps,params:=ps,assign,body,defers:=w.heap.size }
 obtain ⟨W1,hW1⟩:∃ W1,(w.alloc (.deferred (some []))).alloc (.loop (rec' .ready))=W1:=⟨_,rfl⟩;have hD1:W1.heap[w.heap.size]?=some (.deferred (some [])):=by
  rw[← hW1];exact (Below.heap_alloc _ _ _ (by simp)).trans (heap_alloc_new w _)
 have hL1:W1.heap[w.heap.size+1]?=some (.loop (rec' .ready)):=by
  rw[← hW1];have:=heap_alloc_new (w.alloc (.deferred (some []))) (.loop (rec' .ready));rwa [World.size_alloc] at this
 have hs1:W1.heap.size=w.heap.size+2:=by rw[← hW1];simp
 have hb1:Below w.heap.size w W1:=by rw[← hW1];exact ((Below.refl _ w).alloc (Nat.le_refl _) _).alloc (by simp) _
 have turn:∀ (B:World) (o:Obj),w.heap.size+1<B.heap.size→Below w.heap.size B (B.putObj (w.heap.size+1) o)∧(B.putObj (w.heap.size+1) o).heap[w.heap.size]?=B.heap[w.heap.size]?:=fun B o hlt=>
  ⟨Below.grown (Below.refl _ B) (grownBy_putObj' B (w.heap.size+1) o) (by omega) (fun k e=>by cases e;omega),World.putObj_heap_other (by omega)⟩
 refine ⟨w.heap.size+1,[{ target:=.collected w.heap.size,args:=#[] }],W1,{ target:=.fn (.func gf) lb,args:=#[.func (.yield (w.heap.size+1)) #[] #[]] },W1,gf,
  #[.func (.yield (w.heap.size+1)) #[] #[]]++lb,W1,?_,?_,?_,?_,fun _=>h1,?_⟩
 ·rw[← hW1];exact run_enterLoop_outer _ _ _ _ _
 ·simp only[resolve,hg]
  simp[go_sem]
 ·intro f' hf'
  simp[Target.leads] at hf';subst hf';exact hFg
 ·simp[invoke,go_sem,eg]
 ·refine (hit (w.heap.size+1) (fun i W=>I i W∧W.heap[w.heap.size+1]?=some (.loop (rec' .ready))∧W.heap[w.heap.size]?=some (.deferred (some []))) W1 hb1 (by omega) (by omega)
   (fun i A B h hb=>⟨hI i A B h.1 (hb.mono (by omega)),(hb.block _ (by omega)).trans h.2.1,(hb.block _ (by omega)).trans h.2.2⟩) ?_ ⟨hI 0 _ _ h0 hb1,hL1,hD1⟩).mono ?_
  ·rintro i A hi ⟨hIA,hl,hd⟩
   have hlt:w.heap.size+1<A.heap.size:=(Array.getElem?_eq_some_iff.1 hl).1;have hy:=run_yield (P:=P) (args:=encs i) hl (hps i);have hbr:(Instr.beginRound (w.heap.size+1)).run P A=.ok () (A.putObj (w.heap.size+1) (.loop (rec' .busy))):=run_beginRound hl rfl;refine ⟨fn,_,assign,body,hy,roundIn_of_wpIn hfn (hassign _ i A _ ⟨_,hbr,?_⟩)⟩;obtain ⟨hb2,hd2⟩:=turn A (.loop (rec' .busy)) hlt;have hl2:(A.putObj (w.heap.size+1) (.loop (rec' .busy))).heap[w.heap.size+1]?=some (.loop (rec' .busy)):=World.putObj_heap_same hlt;refine wpIn_mono (hbody _ i _ (hI i _ _ hIA hb2) hi) ?_;rintro e a3 W3 ⟨rfl,hs3,hI3⟩;have hlt2:w.heap.size+1<(A.putObj (w.heap.size+1) (.loop (rec' .busy))).heap.size:=(Array.getElem?_eq_some_iff.1 hl2).1;have hl3:=(hs3.block (w.heap.size+1) hlt2 (fun hx=>by have:=hX _ hx;omega)).trans hl2;have hd3:=(hs3.block w.heap.size (by omega) (fun hx=>by have:=hX _ hx;omega)).trans (hd2.trans hd);have hlt3:w.heap.size+1<W3.heap.size:=(Array.getElem?_eq_some_iff.1 hl3).1;obtain ⟨hb4,hd4⟩:=turn W3 (.loop (rec' .ready)) hlt3;have her:(Instr.endRound (w.heap.size+1) none).run P W3=.ok (.bool true) (W3.putObj (w.heap.size+1) (.loop (rec' .ready))):=run_endRound (P:=P) none hl3;refine ⟨_,_,her,rfl,⟨hI _ _ _ hI3 hb4,World.putObj_heap_same hlt3,hd4.trans hd3⟩,?_⟩;have s1:Same (fun k=>k=w.heap.size+1∨X k) A (A.putObj (w.heap.size+1) (.loop (rec' .busy))):=
    ⟨hb2.size,fun k _ hn=>World.putObj_heap_other (fun e=>hn (.inl e))⟩
   have s3:Same (fun k=>k=w.heap.size+1∨X k) W3 (W3.putObj (w.heap.size+1) (.loop (rec' .ready))):=
    ⟨hb4.size,fun k _ hn=>World.putObj_heap_other (fun e=>hn (.inl e))⟩
   exact (s1.trans (hs3.mono (fun _ h=>.inr h))).trans s3
  ·rintro e W2 ⟨⟨v,rfl⟩,hI2,hl,hd⟩
   have hlt:w.heap.size+1<W2.heap.size:=(Array.getElem?_eq_some_iff.1 hl).1;have hend:(Instr.endLoop (w.heap.size+1)).run P W2=.ok none (W2.putObj (w.heap.size+1) (.loop (rec' .exhausted))):=run_endLoop (P:=P) hl (by simp[rec']);obtain ⟨hb4,hd4⟩:=turn W2 (.loop (rec' .exhausted)) hlt;exact ⟨none,_,hend,hdone _ _ (Nat.le_refl _) (hI _ _ _ hI2 hb4) (hd4.trans hd)⟩
end
end Go.Proofs.Ytbhkdlpdolioaaa
