import Derived.Test.YtbhkdlpdolioaaaP3
import Derived.Test.YtbhkdlpdolioaaaP39
set_option linter.unusedVariables false
set_option linter.unusedSimpArgs false
set_option maxHeartbeats 8000000
set_option maxRecDepth 100000
namespace Go.Proofs.Ytbhkdlpdolioaaa
open Go.RowKit Go.ChangeShapes Go.WideShapes Go.Deep
section
variable {H : Type} {enc : TypeId × Value → H} {P : Program} {w : World} {base : Nat} {spare : Nat → Bool} {held : Bool}
theorem afr {t:TypeId}{fs:Array Field}{N:Nat}{v:Value}{d:DataW H}{p:List MemPlace}{r:Reach}{b0:Nat}(hs:P.underlying t=some (.struct fs))(hC:P.cellsOf t=N)
  (hv:Value.okWide P w r b0 t v) (h:DataW.Trod enc P w base spare held t v d p):
  ∃ (cs:List Value) (xs:List (DataW H × List MemPlace)) (n:Nat),v=.agg cs.toArray∧cs.length=N∧d=.agg (xs.map (·.1))∧xs.length=fs.size ∧
   ∀ (i:Nat) (f:Field),fs[i]?=some f→DataW.trod enc P w base spare held n f.type ((cs.drop f.offset).take (P.cellsOf f.type))=xs[i]?:=by
 obtain ⟨cs,rfl,hsz⟩:=okWide_struct hs hv;obtain ⟨l⟩:=cs;obtain ⟨fuel,hf⟩:=h;obtain ⟨xs,n,_,hx,_,hlen,hg⟩:=DataW.trod_struct hs hf;simp only[Prod.mk.injEq] at hx;exact ⟨l,xs,n,rfl,hsz.trans hC,hx.1,hlen,hg⟩
theorem RL.of_field {t t2 e:TypeId}{v:Value}{n0:Nat}{y:DataW H × List MemPlace}(ht:P.underlying t=some (.slice t2))(hc2:P.cellsOf t2=1)(ht2:P.underlying t2=some (.slice e))(he:P.underlying e=some (.int .u8))(hc:P.cellsOf e=1)(hb:P.bytesOf e=1)
  (h:DataW.trod enc P w base spare held n0 t [v]=some y) (B:Nat) (hd:∀ n∈y.1.weights P t,n≤B):∃ ls,RL w v ls∧∀ i,i<ls.length→(ls.getD i []).length≤B:=by
 rcases open_slice ht h with ⟨hcs,_⟩ | ⟨x,len,cap,m,k,D,Pl,hcs,_,hl,hm,hmm,hxd,hi⟩
 ·simp at hcs
  subst hcs;exact ⟨[],RL.nil w,fun i hi=>by simp at hi⟩
 ·simp at hcs
  subst hcs;obtain ⟨y1,y2⟩:=y;simp only[Prod.mk.injEq] at hxd;obtain ⟨rfl,_⟩:=hxd;have hlm:len≤m:=by rw[hmm];split <;> omega
  have hone:∀ i,i<len→∃ y:Value × List UInt8,w.cell? (x.add i)=some y.1∧Rd w y.1 y.2∧y.2.length≤B:=by
   intro i hin;obtain ⟨cs',hcell,htr⟩:=hi i (by omega);rw[hc2] at hcell;obtain ⟨_,hcl,hat⟩:=World.cells?_some hcell;obtain ⟨u,l,rfl,hr⟩:=Rd.of_cells ht2 he hc htr;refine ⟨(u,l),?_,hr,Rd.weighs ht2 hb hr htr B (fun z hz=>hd z ?_)⟩
   ·have:=hat 0 (by omega)
    simpa [Addr.add] using this
   ·simp only[DataW.weights,ht]
    refine List.mem_cons_of_mem _ (List.mem_append_left _ (acs (d:=D i) ?_ z hz));exact List.mem_map.2 ⟨i,List.mem_range.2 hin,rfl⟩
  obtain ⟨ys,hys,hq⟩:=@adB (Value × List UInt8) ⟨(.bool false,[])⟩ len (fun i y=>w.cell? (x.add i)=some y.1∧Rd w y.1 y.2∧y.2.length≤B) hone (.bool false,[]);have hg:∀ i,i<len→(ys.map (·.1)).getD i (.bool false)=(ys.getD i (.bool false,[])).1∧(ys.map (·.2)).getD i []=(ys.getD i (.bool false,[])).2:=fun i hi=>by
   simp[List.getD_eq_getElem?_getD,List.getElem?_map,List.getElem?_eq_getElem (show i<ys.length by omega)]
  refine ⟨ys.map (·.2),⟨ys.map (·.1),⟨some x,cap,by simp[hys],by simp;omega,hm,fun h=>(by cases h),fun y hy i hi=>?_⟩,by simp,fun i hi=>?_⟩,fun i hi=>?_⟩
  ·cases hy
   simp only[List.length_map,hys] at hi;rw[(hq i hi).1];have:=(hg i hi).1;rw[List.getD_eq_getElem?_getD,List.getElem?_eq_getElem (by simpa [hys] using hi)] at this;rw[← this];rfl
  ·simp only[List.length_map,hys] at hi
   rw[(hg i hi).1,(hg i hi).2];exact (hq i hi).2.1
  ·simp only[List.length_map,hys] at hi
   rw[(hg i hi).2];exact (hq i hi).2.2
theorem ab7 {t:TypeId}{f0 f1 f2 f3:Field}{v:Value}{d:DataW H}{p:List MemPlace}{r:Reach}{b0:Nat}(hs:P.underlying t=some (.struct #[f0,f1,f2,f3]))(hC:P.cellsOf t=4)
  (hl:[(f0.offset,P.cellsOf f0.type),(f1.offset,P.cellsOf f1.type),(f2.offset,P.cellsOf f2.type),(f3.offset,P.cellsOf f3.type)]=([(0,1),(1,1),(2,1),(3,1)]:List (Nat × Nat)))
  (hv:Value.okWide P w r b0 t v) (h:DataW.Trod enc P w base spare held t v d p):
  ∃ (c0 c1 c2 c3:Value) (y0 y1 y2 y3:DataW H × List MemPlace) (n:Nat),v=.agg #[c0,c1,c2,c3]∧d=.agg [y0.1,y1.1,y2.1,y3.1]∧DataW.trod enc P w base spare held n f0.type [c0]=some y0∧DataW.trod enc P w base spare held n f1.type [c1]=some y1∧DataW.trod enc P w base spare held n f2.type [c2]=some y2∧DataW.trod enc P w base spare held n f3.type [c3]=some y3:=by
 obtain ⟨cs,xs,n,rfl,hcl,rfl,hxl,hg⟩:=afr hs hC hv h
 simp only[List.cons.injEq,Prod.mk.injEq,and_true] at hl
 obtain ⟨⟨o0,k0⟩,⟨o1,k1⟩,⟨o2,k2⟩,⟨o3,k3⟩⟩:=hl
 match cs,hcl,xs,(show xs.length=4 from hxl) with
 | [c0,c1,c2,c3],_,[y0,y1,y2,y3],_=>
  exact ⟨c0,c1,c2,c3,y0,y1,y2,y3,n,rfl,rfl,by simpa [o0,k0] using hg 0 f0 rfl,by simpa [o1,k1] using hg 1 f1 rfl,by simpa [o2,k2] using hg 2 f2 rfl,by simpa [o3,k3] using hg 3 f3 rfl⟩
theorem ac2 {t:TypeId}{fs:Array Field}{ys:List (DataW H)}{i:Nat}{f:Field}{y:DataW H}(hs:P.underlying t=some (.struct fs))(hf:fs.toList[i]?=some f)(hy:ys[i]?=some y)(B:Nat)(h:∀ n∈(DataW.agg ys).weights P t,n≤B):∀ n∈y.weights P f.type,n≤B:=fun n hn=>by
 refine h n ?_;simp only[DataW.weights,hs];exact DataW.weights_mem_each (t:=f.type) (by rw[List.getElem?_map,hf];rfl) hy n hn
end
end Go.Proofs.Ytbhkdlpdolioaaa
