import Derived.Test.YthmhklmkgkfcpaaGreatDoorU10
import Derived.Test.YthmhklmkgkfcpaaGreatDoorU11
import Derived.Test.YthmhklmkgkfcpaaGreatDoorU20
import Derived.Test.YthmhklmkgkfcpaaGreatDoorU21
import Derived.Maps.OwnSet
import Derived.Sort.KeysCollected
import Derived.Deep.Fields
set_option linter.unusedVariables false
set_option linter.unusedSimpArgs false
set_option maxHeartbeats 8000000
set_option maxRecDepth 100000
namespace Go.Proofs.YthmhklmkgkfcpaaGreatDoor
open Go.RowKit
structure Sd where
 node:Int
 seed:List UInt8
structure Se where
 half:List UInt8
 b:List UInt8
structure St where
 pub:List UInt8
 fors:List Se
structure Pa where
 pub:List UInt8
 step:List St
def RZ (Z:Nat→Prop)(w:World)(v:Value)(l:List UInt8):Prop:=Rd w v l∧Free Z v
theorem RZ.mono {Z Z':Nat→Prop}{w:World}{v:Value}{l:List UInt8}(h:RZ Z w v l)(hz:∀ g,Z' g→Z g):RZ Z' w v l:=⟨h.1,h.2.mono hz⟩
theorem RZ.solid {Z Z':Nat→Prop}{w:World}{v:Value}{l:List UInt8}(h:RZ Z w v l)(hz:∀ g,Z' g→Z g∨¬abz w g):RZ Z' w v l:=⟨h.1,h.2.solid h.1.solid hz⟩
theorem RZ.step {Z:Nat→Prop}{w w':World}{v:Value}{l:List UInt8}(h:RZ Z w v l)(hs:Step Z w w'):RZ Z w' v l:=⟨h.1.stepF hs h.2,h.2⟩
theorem RZ.one {Z:Nat→Prop}{w:World}{v:Value}{l:List UInt8}(h:RZ Z w v l):v.oneCell'=true:=by
 obtain ⟨a,c,rfl,_⟩:=h.1.shape;rfl
theorem SZ.one {α:Type}{S:Sh α}{Z:Nat→Prop}{w:World}{v:Value}{l:List α}(h:SZ S Z w v l):v.oneCell'=true:=by
 obtain ⟨a,c,rfl,_⟩:=h.1.shape;rfl
theorem ago {a b:Value}(ha:a.oneCell'=true)(hb:b.oneCell'=true):∀ z∈[a,b],z.oneCell'=true:=by
 intro z hz;simp only[List.mem_cons,List.not_mem_nil,or_false] at hz;rcases hz with rfl | rfl
 ·exact ha
 ·exact hb
def shSd:Sh Sd where
 k:=2
 pos:=by decide
 R:=fun Z w vs x=>∃ q,vs=[.int .i64 x.node,q]∧RZ Z w q x.seed
 len:=fun ⟨_,e,_⟩=>by rw[e];rfl
 one:=fun ⟨_,e,h⟩=>by rw[e];exact ago rfl h.one
 solid:=fun ⟨q,e,h⟩ hz=>⟨q,e,h.solid hz⟩
 step:=fun ⟨q,e,h⟩ hs=>⟨q,e,h.step hs⟩
def shSe:Sh Se where
 k:=2
 pos:=by decide
 R:=fun Z w vs x=>∃ p q,vs=[p,q]∧RZ Z w p x.half∧RZ Z w q x.b
 len:=fun ⟨_,_,e,_⟩=>by rw[e];rfl
 one:=fun ⟨_,_,e,h1,h2⟩=>by rw[e];exact ago h1.one h2.one
 solid:=fun ⟨p,q,e,h1,h2⟩ hz=>⟨p,q,e,h1.solid hz,h2.solid hz⟩
 step:=fun ⟨p,q,e,h1,h2⟩ hs=>⟨p,q,e,h1.step hs,h2.step hs⟩
def shSt:Sh St where
 k:=2
 pos:=by decide
 R:=fun Z w vs x=>∃ p q,vs=[p,q]∧RZ Z w p x.pub∧SZ shSe Z w q x.fors
 len:=fun ⟨_,_,e,_⟩=>by rw[e];rfl
 one:=fun ⟨_,_,e,h1,h2⟩=>by rw[e];exact ago h1.one h2.one
 solid:=fun ⟨p,q,e,h1,h2⟩ hz=>⟨p,q,e,h1.solid hz,h2.solidly hz⟩
 step:=fun ⟨p,q,e,h1,h2⟩ hs=>⟨p,q,e,h1.step hs,h2.step hs⟩
theorem sd_at {Z:Nat→Prop}{w:World}{b o:Nat}{vs:List Value}{x:Sd}(hr:w.rangeAt b o vs)(h:shSd.R Z w vs x):∃ q,w.cell? ⟨b,o,none⟩=some (.int .i64 x.node)∧w.cell? ⟨b,o+1,none⟩=some q∧RZ Z w q x.seed:=by
 obtain ⟨q,rfl,h⟩:=h;exact ⟨q,hr 0 _ rfl,hr 1 _ rfl,h⟩
theorem ap9 {Z:Nat→Prop}{w:World}{b o:Nat}{vs:List Value}{x:Se}(hr:w.rangeAt b o vs)(h:shSe.R Z w vs x):∃ p q,w.cell? ⟨b,o,none⟩=some p∧w.cell? ⟨b,o+1,none⟩=some q∧RZ Z w p x.half∧RZ Z w q x.b:=by
 obtain ⟨p,q,rfl,h⟩:=h;exact ⟨p,q,hr 0 _ rfl,hr 1 _ rfl,h⟩
theorem aqa {Z:Nat→Prop}{w:World}{b o:Nat}{vs:List Value}{x:St}(hr:w.rangeAt b o vs)(h:shSt.R Z w vs x):∃ p q,w.cell? ⟨b,o,none⟩=some p∧w.cell? ⟨b,o+1,none⟩=some q∧RZ Z w p x.pub∧SZ shSe Z w q x.fors:=by
 obtain ⟨p,q,rfl,h⟩:=h;exact ⟨p,q,hr 0 _ rfl,hr 1 _ rfl,h⟩
def SL (w:World)(v:Value)(l:List Sd):Prop:=arM shSd w v l
def EL (w:World)(v:Value)(l:List Se):Prop:=arM shSe w v l
def TL11 (w:World)(v:Value)(l:List St):Prop:=arM shSt w v l
structure PIn (w:World)(x y:Value)(p:Pa):Prop where
 mk ::
 pub:Rd w x p.pub
 step:arM shSt w y p.step
theorem PIn.kp {w w':World}{x y:Value}{p:Pa}(h:PIn w x y p)(k:Kp w w'):PIn w' x y p:=⟨h.pub.kp k,arM.kp h.step k⟩
def sdAt (l:List Sd)(i:Nat):Sd:=l.getD i ⟨0,[]⟩
def seAt (l:List Se)(i:Nat):Se:=l.getD i ⟨[],[]⟩
def stAt (l:List St)(i:Nat):St:=l.getD i ⟨[],[]⟩
theorem SL.node {w:World}{v:Value}{l:List Sd}(h:SL w v l){i:Nat}(hi:i<l.length):
  ∃ b off c q,v=.slice (some ⟨b,off,none⟩) l.length c∧b<w.heap.size∧w.cell? ⟨b,off+i*2,none⟩=some (.int .i64 (sdAt l i).node)∧w.cell? ⟨b,off+i*2+1,none⟩=some q∧Rd w q (sdAt l i).seed:=by
 obtain ⟨a,c,rfl,h1,h2⟩:=SE.shape h;obtain ⟨b,off,rfl,hb,hc⟩:=SE.at h (by omega);obtain ⟨vs,r1,r2⟩:=hc i l[i] (List.getElem?_eq_getElem hi);obtain ⟨q,d0,d1,d2⟩:=sd_at r1 r2;have e:sdAt l i=l[i]:=by unfold sdAt;rw[List.getD_eq_getElem?_getD,List.getElem?_eq_getElem hi];rfl
 rw[e];exact ⟨b,off,c,q,rfl,hb,d0,d1,d2.1⟩
theorem EL.node {w:World}{v:Value}{l:List Se}(h:EL w v l){i:Nat}(hi:i<l.length):
  ∃ b off c p q,v=.slice (some ⟨b,off,none⟩) l.length c∧b<w.heap.size∧w.cell? ⟨b,off+i*2,none⟩=some p∧w.cell? ⟨b,off+i*2+1,none⟩=some q∧Rd w p (seAt l i).half∧Rd w q (seAt l i).b:=by
 obtain ⟨a,c,rfl,h1,h2⟩:=SE.shape h;obtain ⟨b,off,rfl,hb,hc⟩:=SE.at h (by omega);obtain ⟨vs,r1,r2⟩:=hc i l[i] (List.getElem?_eq_getElem hi);obtain ⟨p,q,d0,d1,d2,d3⟩:=ap9 r1 r2;have e:seAt l i=l[i]:=by unfold seAt;rw[List.getD_eq_getElem?_getD,List.getElem?_eq_getElem hi];rfl
 rw[e];exact ⟨b,off,c,p,q,rfl,hb,d0,d1,d2.1,d3.1⟩
theorem TL11.node {w:World}{v:Value}{l:List St}(h:TL11 w v l){i:Nat}(hi:i<l.length):
  ∃ b off c p q,v=.slice (some ⟨b,off,none⟩) l.length c∧b<w.heap.size∧w.cell? ⟨b,off+i*2,none⟩=some p∧w.cell? ⟨b,off+i*2+1,none⟩=some q∧Rd w p (stAt l i).pub∧EL w q (stAt l i).fors:=by
 obtain ⟨a,c,rfl,h1,h2⟩:=SE.shape h;obtain ⟨b,off,rfl,hb,hc⟩:=SE.at h (by omega);obtain ⟨vs,r1,r2⟩:=hc i l[i] (List.getElem?_eq_getElem hi);obtain ⟨p,q,d0,d1,d2,d3⟩:=aqa r1 r2;have e:stAt l i=l[i]:=by unfold stAt;rw[List.getD_eq_getElem?_getD,List.getElem?_eq_getElem hi];rfl
 rw[e];exact ⟨b,off,c,p,q,rfl,hb,d0,d1,d2.1,d3.1⟩
theorem SE.lit1 {α:Type}{S:Sh α}{w:World}{vs:List Value}{x:α}{cs:Array Value}(e:TypeId)(h:S.R noB w vs x)(hc:cs.toList=vs):arM S (w.alloc (.cells cs e)) (.slice (some ⟨w.heap.size,0,none⟩) 1 1) [x]:=by
 refine ⟨_,1,rfl,Nat.le_refl _,by unfold maxLen;omega,fun h=>(by cases h),fun _=>⟨w.heap.size,0,rfl,by simp,fun i y hy=>?_⟩⟩;have hi:i<1:=(List.getElem?_eq_some_iff.1 hy).1;obtain rfl:i=0:=by omega
 cases hy;refine ⟨vs,fun j z hj=>?_,S.kp h ((Kp.refl w).alloc _)⟩;have hb:=(Bx.new w e cs).cell j;subst hc;rw[show 0+0*S.k+j=j by omega,hb,← Array.getElem?_toList];exact hj
def IZ (Z:Nat→Prop)(w:World)(v:Value)(l:List Int):Prop:=RI w v l∧Free Z v
theorem IZ.solid {Z Z':Nat→Prop}{w:World}{v:Value}{l:List Int}(h:IZ Z w v l)(hz:∀ g,Z' g→Z g∨¬abz w g):IZ Z' w v l:=⟨h.1,h.2.solid h.1.solid hz⟩
theorem IZ.step {Z:Nat→Prop}{w w':World}{v:Value}{l:List Int}(h:IZ Z w v l)(hs:Step Z w w'):IZ Z w' v l:=⟨h.1.stepF hs h.2,h.2⟩
theorem IZ.one {Z:Nat→Prop}{w:World}{v:Value}{l:List Int}(h:IZ Z w v l):v.oneCell'=true:=by
 obtain ⟨a,c,e⟩:=h.1.sl;obtain ⟨n,rfl⟩:=e;rfl
theorem akP {a:Value}(ha:a.oneCell'=true):∀ z∈[a],z.oneCell'=true:=by
 intro z hz;simp only[List.mem_cons,List.not_mem_nil,or_false] at hz;subst hz;exact ha
def shRI:Sh (List Int) where
 k:=1
 pos:=by decide
 R:=fun Z w vs x=>∃ q,vs=[q]∧IZ Z w q x
 len:=fun ⟨_,e,_⟩=>by rw[e];rfl
 one:=fun ⟨_,e,h⟩=>by rw[e];exact akP h.one
 solid:=fun ⟨q,e,h⟩ hz=>⟨q,e,h.solid hz⟩
 step:=fun ⟨q,e,h⟩ hs=>⟨q,e,h.step hs⟩
def shBy:Sh (List UInt8) where
 k:=1
 pos:=by decide
 R:=fun Z w vs x=>∃ q,vs=[q]∧RZ Z w q x
 len:=fun ⟨_,e,_⟩=>by rw[e];rfl
 one:=fun ⟨_,e,h⟩=>by rw[e];exact akP h.one
 solid:=fun ⟨q,e,h⟩ hz=>⟨q,e,h.solid hz⟩
 step:=fun ⟨q,e,h⟩ hs=>⟨q,e,h.step hs⟩
structure Stp where
 node:Int
 cover:List Int
def ahq:Sh Stp where
 k:=2
 pos:=by decide
 R:=fun Z w vs x=>∃ q,vs=[.int .i64 x.node,q]∧IZ Z w q x.cover
 len:=fun ⟨_,e,_⟩=>by rw[e];rfl
 one:=fun ⟨_,e,h⟩=>by rw[e];exact ago rfl h.one
 solid:=fun ⟨q,e,h⟩ hz=>⟨q,e,h.solid hz⟩
 step:=fun ⟨q,e,h⟩ hs=>⟨q,e,h.step hs⟩
theorem arM.get {α:Type}{S:Sh α}{w:World}{v:Value}{l:List α}(h:arM S w v l){i:Nat}{x:α}(hi:l[i]?=some x):
  ∃ b off c vs,v=.slice (some ⟨b,off,none⟩) l.length c∧b<w.heap.size∧w.rangeAt b (off+i*S.k) vs∧S.R noB w vs x:=by
 have hl:=(List.getElem?_eq_some_iff.1 hi).1;obtain ⟨a,c,rfl,h1,h2⟩:=SE.shape h;obtain ⟨b,off,rfl,hb,hc⟩:=SE.at h (by omega);obtain ⟨vs,r1,r2⟩:=hc i x hi;exact ⟨b,off,c,vs,rfl,hb,r1,r2⟩
def nsAt (l:List (List Int))(i:Nat):List Int:=l.getD i []
def bsAt (l:List (List UInt8))(i:Nat):List UInt8:=l.getD i []
def spAt (l:List Stp)(i:Nat):Stp:=l.getD i ⟨0,[]⟩
theorem arM.bs {w:World}{v:Value}{l:List (List UInt8)}(h:arM shBy w v l){i:Nat}(hi:i<l.length):
  ∃ b off c q,v=.slice (some ⟨b,off,none⟩) l.length c∧b<w.heap.size∧w.cell? ⟨b,off+i,none⟩=some q∧Rd w q (bsAt l i):=by
 obtain ⟨b,off,c,vs,e,hb,r1,q,rfl,r2⟩:=arM.get h (List.getElem?_eq_getElem hi);have e2:bsAt l i=l[i]:=by unfold bsAt;rw[List.getD_eq_getElem?_getD,List.getElem?_eq_getElem hi];rfl
 rw[e2];have:=r1 0 _ rfl;exact ⟨b,off,c,q,e,hb,by simpa [shBy] using this,r2.1⟩
theorem arM.sp {w:World}{v:Value}{l:List Stp}(h:arM ahq w v l){i:Nat}(hi:i<l.length):
  ∃ b off c q,v=.slice (some ⟨b,off,none⟩) l.length c∧b<w.heap.size∧w.cell? ⟨b,off+i*2,none⟩=some (.int .i64 (spAt l i).node)∧w.cell? ⟨b,off+i*2+1,none⟩=some q∧RI w q (spAt l i).cover:=by
 obtain ⟨b,off,c,vs,e,hb,r1,q,rfl,r2⟩:=arM.get h (List.getElem?_eq_getElem hi);have e2:spAt l i=l[i]:=by unfold spAt;rw[List.getD_eq_getElem?_getD,List.getElem?_eq_getElem hi];rfl
 rw[e2];exact ⟨b,off,c,q,e,hb,r1 0 _ rfl,r1 1 _ rfl,r2.1⟩
structure Cs (w w':World):Prop where
 mk ::
 os:w'.os=w.os
 tape:w'.tape=w.tape
 output:w'.output=w.output
 size:w.heap.size≤w'.heap.size
 block:∀ k,abz w k→w'.heap[k]?=w.heap[k]?
theorem Cs.solid {w w':World}(h:Cs w w'){k:Nat}(hk:abz w k):abz w' k:=by
 have:=h.block k hk;obtain ⟨a,b,c,e⟩:=hk;exact ⟨a,b,c,by rw[this,e]⟩
theorem Cs.trans {a b c:World}(h:Cs a b)(k:Cs b c):Cs a c:=
 ⟨k.os.trans h.os,k.tape.trans h.tape,k.output.trans h.output,Nat.le_trans h.size k.size,fun i hi=>(k.block i (h.solid hi)).trans (h.block i hi)⟩
theorem Kp.cs {w w':World}(h:Kp w w'):Cs w w':=⟨h.os,h.tape,h.output,h.size,fun k hk=>h.block k hk.lt⟩
theorem Cs.grown {w w':World}{m:Nat}(h:w.grownBy w' (some m))(hm:¬abz w m):Cs w w':=
 ⟨h.os,h.tape,h.output,h.size,fun k hk=>h.block k hk.lt fun e=>by cases e;exact hm hk⟩
theorem Cs.step {w w':World}(h:Cs w w'):Step (fun g=>¬abz w g) w w':=⟨h.os,h.tape,h.output,h.size,fun k _ hn=>h.block k (Classical.not_not.1 hn)⟩
theorem Step.cs {w w':World}{Y:Nat→Prop}(h:Step Y w w')(hY:∀ g,Y g→¬abz w g):Cs w w':=⟨h.os,h.tape,h.output,h.size,fun k hk=>h.block k hk.lt fun e=>hY k e hk⟩
theorem Rd.cs {w w':World}{v:Value}{l:List UInt8}(h:Rd w v l)(k:Cs w w'):Rd w' v l:=h.stepF k.step fun x n c e h0 hn=>hn (h.solid x n c e h0)
theorem RI.cs {w w':World}{v:Value}{l:List Int}(h:RI w v l)(k:Cs w w'):RI w' v l:=h.stepF k.step fun x n c e h0 hn=>hn (h.solid x n c e h0)
theorem arM.cs {α:Type}{S:Sh α}{w w':World}{v:Value}{l:List α}(h:arM S w v l)(k:Cs w w'):arM S w' v l:=
 ((SZ.step (Z:=fun g=>¬abz w g) (SZ.solidly (arM.sz h) fun g hg=>.inr hg) k.step).1).mono fun _ h=>h.elim
theorem Cs.cell {w w':World}(h:Cs w w'){a:Addr}{v:Value}(hc:w.cell? a=some v):w'.cell? a=some v:=by
 have:=h.block a.block (abz.of_cell hc);rw[World.cell?_of_block (w:=w) (a:=a) this];exact hc
theorem Bx.cs {w w':World}{b:Nat}{T:TypeId}{cs:Array Value}(h:Bx w b T cs)(k:Cs w w'):Bx w' b T cs:=(k.block b ⟨_,_,_,h⟩).trans h
end Go.Proofs.YthmhklmkgkfcpaaGreatDoor
namespace Go.Proofs.YthmhklmkgkfcpaaGreatDoor
open Go.RowKit Go.Maps
def adv:Value→Option (DataW Value × List MemPlace):=fun v=>some (.held v,[])
def sdV (x:Int)(q:Value):Value:=.agg #[.int .i64 x,q]
def SdIn (w:World)(v:Value)(s:Sd):Prop:=∃ q,v=sdV s.node q∧Rd w q s.seed
theorem SdIn.cs {w w':World}{v:Value}{s:Sd}(h:SdIn w v s)(k:Cs w w'):SdIn w' v s:=by
 obtain ⟨q,e,r⟩:=h;exact ⟨q,e,r.cs k⟩
structure KM (P:Program)(k:TypeId)(w:World)(m n:Nat)(S:Sd→Prop):Prop where
 mk ::
 ex:∃ D,w.ownsMap P k adv m n D∧(∀ x:Int,Maps.has D (.int .i64 x)=true↔∃ s,S s∧s.node=x)∧∀ s,S s→∃ v,(∀ zd,D.atKey (.int .i64 s.node) zd=.held v)∧SdIn w v s
 one:∀ s s',S s→S s'→s.node=s'.node→s=s'
section
variable {P : Program} {k : TypeId} {w w' : World} {m n : Nat} {S : Sd → Prop}
theorem KM.lt (h:KM P k w m n S):m<w.heap.size:=by
 obtain ⟨D,h1,_⟩:=h.ex;exact h1.lt
theorem KM.nosolid (h:KM P k w m n S):¬abz w m:=by
 obtain ⟨D,⟨es,c,h1,_⟩,_⟩:=h.ex;exact aii h1
theorem KM.made (w:World)(P:Program)(k:TypeId):KM P k (w.alloc (.map #[] 0)) w.heap.size 0 (fun _=>False):=
 ⟨⟨_,World.ownsMap_made w P k adv,fun x=>⟨fun h=>by simp[Maps.has] at h,fun ⟨s,h,_⟩=>h.elim⟩,fun s h=>h.elim⟩,fun s s' h=>h.elim⟩
theorem KM.kp (h:KM P k w m n S)(hk:Kp w w'):KM P k w' m n S:=by
 obtain ⟨⟨D,h1,h2,h3⟩,h4⟩:=h;refine ⟨⟨D,h1.kept ⟨hk.os,hk.tape,hk.output,hk.size,fun i hi _=>hk.block i hi⟩ (row:=none) (by simp),h2,fun s hs=>?_⟩,h4⟩;obtain ⟨v,a,b⟩:=h3 s hs;exact ⟨v,a,b.cs hk.cs⟩
theorem KM.mono (h:KM P k w m n S){n':Nat}(hn:n≤n'):KM P k w m n' S:=by
 obtain ⟨⟨D,h1,h2,h3⟩,h4⟩:=h;exact ⟨⟨D,h1.mono hn,h2,h3⟩,h4⟩
theorem KM.congr (h:KM P k w m n S){S':Sd→Prop}(hs:∀ s,S' s↔S s):KM P k w m n S':=by
 have:S'=S:=funext fun s=>propext (hs s)
 rw[this];exact h
theorem KM.put {D:DataW Value}{s:Sd}{v:Value}(h4:∀ s s',S s→S s'→s.node=s'.node→s=s')(hm:IsMap D)(h2:∀ x:Int,Maps.has D (.int .i64 x)=true↔∃ s,S s∧s.node=x)
  (h3:∀ s,S s→∃ v,(∀ zd,D.atKey (.int .i64 s.node) zd=.held v)∧SdIn w v s) (hc:Cs w w') (hv:SdIn w v s) (h1:w'.ownsMap P k adv m n (D.put (.int .i64 s.node) (.held v))):
  KM P k w' m n (fun y=>y=s∨(S y∧y.node≠s.node)):=by
 have hk:WideAt.IsKeyLit (.int .i64 s.node):=trivial;refine ⟨⟨_,h1,fun x=>?_,fun y hy=>?_⟩,fun a b ha hb e=>?_⟩
 ·by_cases e:x=s.node
  ·subst e
   rw[has_put_same hm hk];exact ⟨fun _=>⟨s,.inl rfl,rfl⟩,fun _=>rfl⟩
  ·rw[has_put_other (fun h=>e (by simpa using h)),h2 x]
   constructor
   ·rintro ⟨y,a,b⟩
    exact ⟨y,.inr ⟨a,by rw[b];exact e⟩,b⟩
   ·rintro ⟨y,a | ⟨a,_⟩,b⟩
    ·subst a;exact absurd b.symm e
    ·exact ⟨y,a,b⟩
 ·rcases hy with rfl | ⟨a,b⟩
  ·exact ⟨v,fun zd=>atKey_put_same hm hk _ zd,hv.cs hc⟩
  ·obtain ⟨v',c1,c2⟩:=h3 y a
   refine ⟨v',fun zd=>?_,c2.cs hc⟩;rw[atKey_put_other (fun h=>b (by simpa using h))];exact c1 zd
 ·rcases ha with rfl | ⟨a1,a2⟩ <;> rcases hb with rfl | ⟨b1,b2⟩
  ·rfl
  ·exact absurd e.symm b2
  ·exact absurd e a2
  ·exact h4 a b a1 b1 e
theorem KM.drop {D:DataW Value}{x:Int}(h4:∀ s s',S s→S s'→s.node=s'.node→s=s')(h2:∀ x:Int,Maps.has D (.int .i64 x)=true↔∃ s,S s∧s.node=x)
  (h3:∀ s,S s→∃ v,(∀ zd,D.atKey (.int .i64 s.node) zd=.held v)∧SdIn w v s) (hc:Cs w w') (h1:w'.ownsMap P k adv m n (D.del (.int .i64 x))):
  KM P k w' m n (fun y=>S y∧y.node≠x):=by
 refine ⟨⟨_,h1,fun z=>?_,fun y hy=>?_⟩,fun a b ha hb e=>h4 a b ha.1 hb.1 e⟩
 ·by_cases e:z=x
  ·subst e
   rw[has_del_same];exact ⟨fun h=>(by cases h),fun ⟨y,a,b⟩=>absurd b a.2⟩
  ·rw[has_del_other (fun h=>e (by simpa using h)),h2 z]
   constructor
   ·rintro ⟨y,a,b⟩
    exact ⟨y,⟨a,by rw[b];exact e⟩,b⟩
   ·rintro ⟨y,a,b⟩
    exact ⟨y,a.1,b⟩
 ·obtain ⟨v',c1,c2⟩:=h3 y hy.1
  refine ⟨v',fun zd=>?_,c2.cs hc⟩;rw[atKey_del_other (fun h=>hy.2 (by simpa using h))];exact c1 zd
variable {ops : Array Oper} {rest : List Oper} {o : Oper} {a : Act} {Q : Exit → Act → World → Prop} {e : TypeId}
theorem agR (hg:o.guard=none)(mo xo vo:Operand)(t:TypeId)(hop:o.op=Op.mapUpdate t mo xo vo)(K:Keyed P k)(ht:P.underlying t=some (.map k e))(hm:a.eval mo=.map (some m))(h:KM P k w m n S)(hn:n<maxLen)
  (s:Sd) (v:Value) (hx:a.eval xo=.int .i64 s.node) (hv:a.eval vo=v) (hkey:keyOf P k (.int .i64 s.node)=some (.int .i64 s.node)) (hs:SdIn w v s)
  (hK:∀ w',KM P k w' m (n+1) (fun y=>y=s∨(S y∧y.node≠s.node))→w.grownBy w' (some m)→wpList P ops Q rest (a.put o.dst undef) w'):wpList P ops Q (o :: rest) a w:=by
 obtain ⟨⟨D,h1,h2,h3⟩,h4⟩:=h;have hns:=(KM.mk ⟨D,h1,h2,h3⟩ h4:KM P k w m n S).nosolid;refine wpList_mapUpdate_own w hg mo xo vo t hop k e K ht adv m n D hm h1 hn _ _ _ hx hv hkey (.held v) [] rfl fun w' o' g'=>hK w' ?_ g'
 exact KM.put h4 h1.isMap h2 h3 (Cs.grown g' hns) hs o'
theorem afX (hg:o.guard=none)(mo xo:Operand)(t:TypeId)(hop:o.op=Op.call { callee:=Callee.builtin Builtin.delete,args:=#[mo,xo],argTypes:=#[t,k] })(K:Keyed P k)(ht:P.underlying t=some (.map k e))
  (hm:a.eval mo=.map (some m)) (h:KM P k w m n S) (x:Int) (hx:a.eval xo=.int .i64 x) (hkey:keyOf P k (.int .i64 x)=some (.int .i64 x))
  (hK:∀ w',KM P k w' m n (fun y=>S y∧y.node≠x)→w.grownBy w' (some m)→wpList P ops Q rest (a.put o.dst (.tuple #[])) w'):wpList P ops Q (o :: rest) a w:=by
 obtain ⟨⟨D,h1,h2,h3⟩,h4⟩:=h;have hns:=(KM.mk ⟨D,h1,h2,h3⟩ h4:KM P k w m n S).nosolid;refine wpList_delete_own w hg mo xo t k hop e K ht adv m n D hm h1 _ _ hx hkey fun w' o' g'=>hK w' ?_ g'.grown
 exact KM.drop h4 h2 h3 (Cs.grown g'.grown hns) o'
theorem aeW (hg:o.guard=none)(mo xo:Operand)(t:TypeId)(hop:o.op=Op.lookup t mo xo true)(K:Keyed P k)(ht:P.underlying t=some (.map k e)){z:Value}(hz:(zeroValue e).run P w=.ok z w)
  (hm:a.eval mo=.map (some m)) (h:KM P k w m n S) (s:Sd) (hs:S s) (hx:a.eval xo=.int .i64 s.node) (hkey:keyOf P k (.int .i64 s.node)=some (.int .i64 s.node))
  (hK:∀ q,Rd w q s.seed→wpList P ops Q rest (a.put o.dst (.tuple #[sdV s.node q,.bool true])) w):wpList P ops Q (o :: rest) a w:=by
 obtain ⟨⟨D,h1,h2,h3⟩,h4⟩:=h;obtain ⟨v,c1,q,rfl,c2⟩:=h3 s hs;refine wpList_lookup_own_ok w hg mo xo t hop k e K ht adv hz (.held z) [] rfl m n D hm h1 _ _ hx hkey fun v' ps hv=>?_
 have e1:DataW.held v'=.held (sdV s.node q):=by
  have:=congrArg (fun x=>x.map Prod.fst) hv;simpa [adv,c1] using this
 cases e1;rw[(h2 _).2 ⟨s,hs,rfl⟩];exact hK q c2
theorem afJ (hg:o.guard=none)(mo xo:Operand)(t:TypeId)(hop:o.op=Op.lookup t mo xo true)(K:Keyed P k)(ht:P.underlying t=some (.map k e)){z:Value}(hz:(zeroValue e).run P w=.ok z w)
  (hm:a.eval mo=.map (some m)) (h:KM P k w m n S) (x:Int) (hs:∀ s,S s→s.node≠x) (hx:a.eval xo=.int .i64 x) (hkey:keyOf P k (.int .i64 x)=some (.int .i64 x))
  (hK:wpList P ops Q rest (a.put o.dst (.tuple #[z,.bool false])) w):wpList P ops Q (o :: rest) a w:=by
 obtain ⟨⟨D,h1,h2,h3⟩,h4⟩:=h;have hn:Maps.has D (.int .i64 x)=false:=by
  cases hh:Maps.has D (.int .i64 x)
  ·rfl
  ·obtain ⟨s,a,b⟩:=(h2 x).1 hh
   exact absurd b (hs s a)
 refine wpList_lookup_own_ok w hg mo xo t hop k e K ht adv hz (.held z) [] rfl m n D hm h1 _ _ hx hkey fun v' ps hv=>?_
 have e1:DataW.held v'=.held z:=by
  have:=congrArg (fun x=>x.map Prod.fst) hv;simpa [adv,atKey_of_not_has hn] using this
 cases e1;rw[hn];exact hK
theorem aiK (hg:o.guard=none)(mo xo:Operand)(t:TypeId)(hop:o.op=Op.lookup t mo xo false)(K:Keyed P k)(ht:P.underlying t=some (.map k e)){z:Value}(hz:(zeroValue e).run P w=.ok z w)
  (hm:a.eval mo=.map (some m)) (h:KM P k w m n S) (s:Sd) (hs:S s) (hx:a.eval xo=.int .i64 s.node) (hkey:keyOf P k (.int .i64 s.node)=some (.int .i64 s.node))
  (hK:∀ q,Rd w q s.seed→wpList P ops Q rest (a.put o.dst (sdV s.node q)) w):wpList P ops Q (o :: rest) a w:=by
 obtain ⟨⟨D,h1,h2,h3⟩,h4⟩:=h;obtain ⟨v,c1,q,rfl,c2⟩:=h3 s hs;refine wpList_plain hg fun K' hK'=>?_
 obtain ⟨v',ps,hrun,hv⟩:=h1.lookup K ht hz (R:=adv) (zd:=.held z) (zp:=[]) rfl hkey;have e1:DataW.held v'=.held (sdV s.node q):=by
  have:=congrArg (fun x=>x.map Prod.fst) hv;simpa [adv,c1] using this
 cases e1;unfold Oper.wp;simp[execOp,hop,hm,hx,hrun,Result.andThen];exact hK' _ _ (hK q c2)
end
end Go.Proofs.YthmhklmkgkfcpaaGreatDoor
namespace Go.Proofs.YthmhklmkgkfcpaaGreatDoor
open Go.RowKit Go.ChangeShapes Go.WideShapes Go.Deep
instance:Inhabited Nod:=⟨aan⟩
section
variable {H : Type} {enc : TypeId × Value → H} {P : Program} {w : World} {base : Nat} {spare : Nat → Bool} {held : Bool}
theorem RI.of_one {t e:TypeId}{fuel:Nat}{v:Value}{x:DataW H × List MemPlace}(ht:P.underlying t=some (.slice e))(he:P.underlying e=some (.int .i64))(hc:P.cellsOf e=1)
  (h:DataW.trod enc P w base spare held fuel t [v]=some x):∃ l,RI w v l:=by
 rcases open_ints ht he hc h with ⟨hcs,_⟩ | ⟨a,len,cap,zs,hcs,_,hl,hm,hz,_,hcell,_⟩
 ·cases hcs
  exact ⟨[],RI.nil w⟩
 ·cases hcs
  have hzl:len≤zs.length:=by rw[hz];split <;> omega
  have hlen:((zs.take len).map nI).length=len:=by simp;omega
  refine ⟨zs.take len,some a,cap,by rw[hlen],by rw[hlen];exact hl,hm,fun h=>(by cases h),fun y hy i hi=>?_⟩;cases hy;rw[hlen] at hi;rw[hcell i (by omega)];simp[nI,List.getD_eq_getElem?_getD,List.getElem?_eq_getElem (show i<zs.length by omega)]
theorem NL.of_cells {t e:TypeId}{f0 f1 f2 f3 f4:Field}{fuel:Nat}{cs:List Value}{x:DataW H × List MemPlace}{eb ei:TypeId}(ht:P.underlying t=some (.slice e))(he:P.underlying e=some (.struct #[f0,f1,f2,f3,f4]))
  (hone:oneCellFields P #[f0,f1,f2,f3,f4]=true) (hC:P.cellsOf e=5) (h0:P.underlying f0.type=some (.int .i64)) (h1:P.underlying f1.type=some (.int .i64)) (h2:P.underlying f2.type=some (.slice eb)) (h3:P.underlying f3.type=some (.slice ei)) (h4:P.underlying f4.type=some (.slice eb))
  (hb:P.underlying eb=some (.int .u8)) (hbc:P.cellsOf eb=1) (hi:P.underlying ei=some (.int .i64)) (hic:P.cellsOf ei=1)
  (h:DataW.trod enc P w base spare held fuel t cs=some x):∃ v l,cs=[v]∧NL w v l:=by
 rcases open_slice ht h with ⟨hcs,_⟩ | ⟨a,len,cap,m,n,D,Pl,hcs,_,hl,hm,hmm,_,hel⟩
 ·exact ⟨_,[],hcs,NL.nil w⟩
 ·have hlm:len≤m:=by rw[hmm];split <;> omega
  rw[hC] at hel;have key:∀ i,i<len→∃ nd:Nod,∃ p u q,(w.cell? (a.add (i*5))=some (.int .i64 nd.kind)∧w.cell? ((a.add (i*5)).add 1)=some (.int .i64 nd.name)∧w.cell? ((a.add (i*5)).add 2)=some p∧w.cell? ((a.add (i*5)).add 3)=some u∧w.cell? ((a.add (i*5)).add 4)=some q)∧NIn w nd p u q:=by
   intro i hil;obtain ⟨cs',hcc,htr⟩:=hel i (by omega);obtain ⟨_,hl5,hat⟩:=World.cells?_some hcc;obtain ⟨xs,n',_,_,_,hxs,hg⟩:=DataW.trod_struct he htr;obtain ⟨o0,k0⟩:=hone_of hone 0 f0 rfl;obtain ⟨o1,k1⟩:=hone_of hone 1 f1 rfl;obtain ⟨o2,k2⟩:=hone_of hone 2 f2 rfl;obtain ⟨o3,k3⟩:=hone_of hone 3 f3 rfl;obtain ⟨o4,k4⟩:=hone_of hone 4 f4 rfl;match cs',hl5 with
   | [c0,c1,c2,c3,c4],_=>
    have hxl:xs.length=5:=hxs;match xs,hxl with
    | [y0,y1,y2,y3,y4],_=>
     have g0:DataW.trod enc P w base spare held n' f0.type [c0]=some y0:=by simpa [o0,k0] using hg 0 f0 rfl
     have g1:DataW.trod enc P w base spare held n' f1.type [c1]=some y1:=by simpa [o1,k1] using hg 1 f1 rfl
     have g2:DataW.trod enc P w base spare held n' f2.type [c2]=some y2:=by simpa [o2,k2] using hg 2 f2 rfl
     have g3:DataW.trod enc P w base spare held n' f3.type [c3]=some y3:=by simpa [o3,k3] using hg 3 f3 rfl
     have g4:DataW.trod enc P w base spare held n' f4.type [c4]=some y4:=by simpa [o4,k4] using hg 4 f4 rfl
     obtain ⟨n0,e0,_,_⟩:=DataW.trod_int h0 g0;obtain ⟨n1,e1,_,_⟩:=DataW.trod_int h1 g1;cases e0;cases e1;obtain ⟨l2,r2⟩:=Rd.of_one h2 hb hbc g2;obtain ⟨l3,r3⟩:=RI.of_one h3 hi hic g3;obtain ⟨l4,r4⟩:=Rd.of_one h4 hb hbc g4;refine ⟨⟨n0,n1,l2,l3,l4⟩,c2,c3,c4,⟨?_,hat 1 (by omega),hat 2 (by omega),hat 3 (by omega),hat 4 (by omega)⟩,r2,r3,r4⟩;have:=hat 0 (by omega);rwa [show (a.add (i*5)).add 0=a.add (i*5) by unfold Addr.add;split <;> simp_all] at this
  obtain ⟨l,hll,hlq⟩:=aki len _ key aan;refine ⟨_,l,by rw[hcs,hll],some a,cap,rfl,by omega,hm,fun h=>(by cases h),fun h0=>?_⟩;rw[hll] at h0;obtain ⟨b,off,spot⟩:=a;obtain ⟨p,u,q,⟨hc0,_⟩,_⟩:=hlq 0 h0;have hs:spot=none:=by simpa [Addr.add] using World.cell?_spot hc0
  subst hs;refine ⟨b,off,rfl,World.block_lt_of_cell? w _ hc0,fun i hi=>?_⟩;rw[hll] at hi;obtain ⟨p,u,q,⟨d0,d1,d2,d3,d4⟩,hin⟩:=hlq i hi;simp only[Addr.add_mid] at d0 d1 d2 d3 d4;refine ⟨p,u,q,fun j v hj=>?_,hin⟩;have hj5:j<5:=(List.getElem?_eq_some_iff.1 hj).1;match j,hj5 with
  | 0,_=>cases hj;exact d0
  | 1,_=>cases hj;exact d1
  | 2,_=>cases hj;exact d2
  | 3,_=>cases hj;exact d3
  | 4,_=>cases hj;exact d4
end
end Go.Proofs.YthmhklmkgkfcpaaGreatDoor
