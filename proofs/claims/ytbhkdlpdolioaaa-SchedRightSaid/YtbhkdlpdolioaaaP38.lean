import Derived.Test.YtbhkdlpdolioaaaP4
set_option linter.unusedVariables false
set_option linter.unusedSimpArgs false
set_option maxHeartbeats 8000000
set_option maxRecDepth 100000
namespace Go.Proofs.Ytbhkdlpdolioaaa
open Go.RowKit
def Bx (w:World)(b:Nat)(T:TypeId)(cs:Array Value):Prop:=w.heap[b]?=some (.cells cs T (0,0))
theorem Bx.kp {w w':World}{b:Nat}{T:TypeId}{cs:Array Value}(h:Bx w b T cs)(k:Kp w w'):Bx w' b T cs:=
 (Below.block k b (Array.getElem?_eq_some_iff.1 h).1).trans h
theorem Bx.cell {w:World}{b:Nat}{T:TypeId}{cs:Array Value}(h:Bx w b T cs)(j:Nat):w.cell? ⟨b,j,none⟩=cs[j]?:=cell_of_row w b j cs T (0,0) h
theorem Bx.frozen {w:World}{b:Nat}{T:TypeId}{cs:Array Value}(h:Bx w b T cs)(j:Nat):w.frozen? ⟨b,j,none⟩=false:=frozen_of_row w b j cs T h
theorem Bx.new (w:World)(T:TypeId)(cs:Array Value):Bx (w.alloc (.cells cs T)) w.heap.size T cs:=heap_alloc_new w _
theorem Bx.set {w:World}{b:Nat}{T:TypeId}{cs:Array Value}(h:Bx w b T cs)(j:Nat)(v:Value):Bx (w.setCell ⟨b,j,none⟩ v) b T (cs.setIfInBounds j v):=heap_setCell_same w b j cs T v h
theorem Kp.setNew {w w':World}(h:Kp w w'){b j:Nat}(hb:w.heap.size≤b)(v:Value):Kp w (w'.setCell ⟨b,j,none⟩ v):=Below.setCell h hb v
theorem Bx.setCells {b:Nat}{T:TypeId}:∀ (vs:List Value) (o:Nat) (w:World) (cs:Array Value),Bx w b T cs→o+vs.length≤cs.size →
  ∃ cs':Array Value,Bx (w.setCells b o vs) b T cs'∧cs'.size=cs.size∧∀ k,cs'[k]?=if o≤k∧k<o+vs.length then vs[k - o]? else cs[k]?
 | [],o,w,cs,h,_=>⟨cs,h,rfl,fun k=>by rw[if_neg (by simp only[List.length_nil];omega)]⟩
 | v :: vs,o,w,cs,h,hl=>by
  simp only[List.length_cons] at hl
  obtain ⟨cs',h2,h3,h4⟩:=Bx.setCells vs (o+1) (w.setCell ⟨b,o,none⟩ v) (cs.setIfInBounds o v) (h.set o v) (by rw[Array.size_setIfInBounds];omega)
  refine ⟨cs',h2,by rw[h3,Array.size_setIfInBounds],fun k=>?_⟩
  rw[h4 k]
  simp only[List.length_cons]
  by_cases h5:o+1≤k∧k<o+1+vs.length
  ·rw[if_pos h5,if_pos ⟨by omega,by omega⟩,show k - o=(k - (o+1))+1 by omega,List.getElem?_cons_succ]
  ·rw[if_neg h5,Array.getElem?_setIfInBounds]
   by_cases h6:o=k
   ·subst h6
    rw[if_pos rfl,if_pos (by omega),if_pos ⟨by omega,by omega⟩,Nat.sub_self]
    rfl
   ·rw[if_neg h6,if_neg (by omega)]
theorem Bx.fill {w:World}{b:Nat}{T:TypeId}{cs:Array Value}(h:Bx w b T cs)(vs:Array Value)(hl:vs.size=cs.size):Bx (w.setCells b 0 vs.toList) b T vs:=by
 obtain ⟨cs',h1,h2,h3⟩:=Bx.setCells vs.toList 0 w cs h (by rw[Array.length_toList];omega);have e:cs'=vs:=by
  refine Array.ext_getElem? fun k=>?_
  rw[h3 k,Array.length_toList];split
  ·rw[Nat.sub_zero,Array.getElem?_toList]
  ·next hk=>rw[Array.getElem?_eq_none (by omega),Array.getElem?_eq_none (by omega)]
 exact e▸h1
theorem Bx.there {w:World}{b:Nat}{T:TypeId}{cs:Array Value}(h:Bx w b T cs):w.there b 0 cs.size:=fun j hj=>by
 rw[Nat.zero_add,h.cell j];exact ⟨by simp[hj],h.frozen j⟩
theorem Kp.setCells {w w':World}(h:Kp w w'){b:Nat}(hb:w.heap.size≤b):∀ (vs:List Value) (o:Nat),Kp w (w'.setCells b o vs):=by
 intro vs
 induction vs generalizing w' with
 | nil=>intro o;exact h
 | cons v vs ih=>intro o;exact ih (h.setNew hb v) (o+1)
theorem aei (w:World)(g o:Nat):∀ (vs:List Value) (o:Nat),w.grownBy (w.setCells g o vs) (some g):=by
 intro vs
 induction vs generalizing w with
 | nil=>exact fun o=>⟨rfl,rfl,rfl,Nat.le_refl _,fun _ _ _=>rfl⟩
 | cons v vs ih=>
  intro o
  have g2:=ih (w.setCell ⟨g,o,none⟩ v) (o+1)
  refine ⟨g2.os,g2.tape,g2.output,by show w.heap.size≤((w.setCell ⟨g,o,none⟩ v).setCells g (o+1) vs).heap.size;have:=g2.size;simpa using this,fun k hk hn=>(g2.block k (by simpa using hk) hn).trans ?_⟩
  exact Below.heap_setCell w _ _ k (fun e=>hn (by rw[e]))
theorem abk {P:Program}{fn:Func}{p q:Tmp}{ty:TypeId}(h:fn.results=#[.cell p ty,.tmp q])(tmps:Array Value)(w:World)(g:Nat)(t:TypeId)(cs:Array Value)(fr:Nat × Nat)(d:TypeDesc)(v:Value)
  (hp:tmps.getD p undef=.pointer (some ⟨g,0,none⟩)) (hg:w.heap[g]?=some (.cells cs t fr))
  (hu:P.underlying ty=some d) (hd:(match d with | .struct _ | .array _ _=>true | _=>false)=true) (hi:(P.info? ty).map (·.size)=some cs.size) (hq:tmps.getD q undef=v):
  (results fn tmps).run P w=.ok (.tuple #[.agg cs,v]) w:=by
 have hp':tmps[p]?.getD undef=.pointer (some ⟨g,0,none⟩):=by simpa using hp
 have hq':tmps[q]?.getD undef=v:=by simpa using hq
 simp[results,h,hp',hq',asAddr,run_loadVar_row w g t ty cs fr d hg hu hd hi]
theorem aau {P:Program}{ops:Array Oper}{rest:List Oper}{o:Oper}{a:Act}{w:World}{Q:Exit→Act→World→Prop}(hgd:o.guard=none)(hd:o.dst=none)(ty:TypeId)(x y:Operand)(ho:o.op=.store ty x y)
  (g:Nat) (T:TypeId) (cs vs:Array Value) (hx:a.eval x=.pointer (some ⟨g,0,none⟩)) (hy:a.eval y=.agg vs) (hb:Bx w g T cs) (hl:vs.size=cs.size) (hone:∀ z∈vs.toList,z.oneCell'=true) (hi:(P.info? ty).map (·.size)=some vs.size)
  (h:∀ w',Bx w' g T vs→w.grownBy w' (some g)→(∀ w0,Kp w0 w→w0.heap.size≤g→Kp w0 w')→wpList P ops Q rest a w'):wpList P ops Q (o :: rest) a w:=by
 refine wpList_store_mid hgd ty x y ho g 0 vs hx hy (by rw[hl];exact hb.there) hi (all_oneCell_toArray (cs:=vs.toList) hone) ?_;rw[hd];exact h _ (hb.fill vs hl) (aei w g 0 vs.toList 0) fun w0 k hg=>k.setCells hg vs.toList 0
end Go.Proofs.Ytbhkdlpdolioaaa
