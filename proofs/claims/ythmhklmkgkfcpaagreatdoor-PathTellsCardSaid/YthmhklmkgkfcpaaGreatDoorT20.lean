import Derived.Test.YthmhklmkgkfcpaaGreatDoorT2
import Derived.Test.YthmhklmkgkfcpaaGreatDoorT15
import Derived.Test.YthmhklmkgkfcpaaGreatDoorT16
import Derived.Test.YthmhklmkgkfcpaaGreatDoorT17
import Derived.Maps.OwnSet
import Derived.Sort.KeysCollected
import Derived.Deep.Fields
set_option linter.unusedVariables false
set_option linter.unusedSimpArgs false
set_option maxHeartbeats 8000000
set_option maxRecDepth 100000
namespace Go.Proofs.YthmhklmkgkfcpaaGreatDoor
open Go.RowKit
structure Sd where
 node:Int
 seed:List UInt8
structure Se where
 half:List UInt8
 b:List UInt8
structure St where
 pub:List UInt8
 fors:List Se
structure Pa where
 pub:List UInt8
 step:List St
def RZ (Z:Nat→Prop)(w:World)(v:Value)(l:List UInt8):Prop:=Rd w v l∧Free Z v
theorem RZ.mono {Z Z':Nat→Prop}{w:World}{v:Value}{l:List UInt8}(h:RZ Z w v l)(hz:∀ g,Z' g→Z g):RZ Z' w v l:=⟨h.1,h.2.mono hz⟩
theorem RZ.solid {Z Z':Nat→Prop}{w:World}{v:Value}{l:List UInt8}(h:RZ Z w v l)(hz:∀ g,Z' g→Z g∨¬abw w g):RZ Z' w v l:=⟨h.1,h.2.solid h.1.solid hz⟩
theorem RZ.step {Z:Nat→Prop}{w w':World}{v:Value}{l:List UInt8}(h:RZ Z w v l)(hs:Step Z w w'):RZ Z w' v l:=⟨h.1.stepF hs h.2,h.2⟩
theorem RZ.of {w:World}{v:Value}{l:List UInt8}(h:Rd w v l):RZ noB w v l:=⟨h,Free.none v⟩
theorem RZ.one {Z:Nat→Prop}{w:World}{v:Value}{l:List UInt8}(h:RZ Z w v l):v.oneCell'=true:=by
 obtain ⟨a,c,rfl,_⟩:=h.1.shape;rfl
theorem SZ.one {α:Type}{S:Sh α}{Z:Nat→Prop}{w:World}{v:Value}{l:List α}(h:SZ S Z w v l):v.oneCell'=true:=by
 obtain ⟨a,c,rfl,_⟩:=h.1.shape;rfl
theorem agr {a b:Value}(ha:a.oneCell'=true)(hb:b.oneCell'=true):∀ z∈[a,b],z.oneCell'=true:=by
 intro z hz;simp only[List.mem_cons,List.not_mem_nil,or_false] at hz;rcases hz with rfl | rfl
 ·exact ha
 ·exact hb
def shSd:Sh Sd where
 k:=2
 pos:=by decide
 R:=fun Z w vs x=>∃ q,vs=[.int .i64 x.node,q]∧RZ Z w q x.seed
 len:=fun ⟨_,e,_⟩=>by rw[e];rfl
 one:=fun ⟨_,e,h⟩=>by rw[e];exact agr rfl h.one
 solid:=fun ⟨q,e,h⟩ hz=>⟨q,e,h.solid hz⟩
 step:=fun ⟨q,e,h⟩ hs=>⟨q,e,h.step hs⟩
def shSe:Sh Se where
 k:=2
 pos:=by decide
 R:=fun Z w vs x=>∃ p q,vs=[p,q]∧RZ Z w p x.half∧RZ Z w q x.b
 len:=fun ⟨_,_,e,_⟩=>by rw[e];rfl
 one:=fun ⟨_,_,e,h1,h2⟩=>by rw[e];exact agr h1.one h2.one
 solid:=fun ⟨p,q,e,h1,h2⟩ hz=>⟨p,q,e,h1.solid hz,h2.solid hz⟩
 step:=fun ⟨p,q,e,h1,h2⟩ hs=>⟨p,q,e,h1.step hs,h2.step hs⟩
def shSt:Sh St where
 k:=2
 pos:=by decide
 R:=fun Z w vs x=>∃ p q,vs=[p,q]∧RZ Z w p x.pub∧SZ shSe Z w q x.fors
 len:=fun ⟨_,_,e,_⟩=>by rw[e];rfl
 one:=fun ⟨_,_,e,h1,h2⟩=>by rw[e];exact agr h1.one h2.one
 solid:=fun ⟨p,q,e,h1,h2⟩ hz=>⟨p,q,e,h1.solid hz,h2.solidly hz⟩
 step:=fun ⟨p,q,e,h1,h2⟩ hs=>⟨p,q,e,h1.step hs,h2.step hs⟩
theorem sd_at {Z:Nat→Prop}{w:World}{b o:Nat}{vs:List Value}{x:Sd}(hr:w.rangeAt b o vs)(h:shSd.R Z w vs x):∃ q,w.cell? ⟨b,o,none⟩=some (.int .i64 x.node)∧w.cell? ⟨b,o+1,none⟩=some q∧RZ Z w q x.seed:=by
 obtain ⟨q,rfl,h⟩:=h;exact ⟨q,hr 0 _ rfl,hr 1 _ rfl,h⟩
theorem aqp {Z:Nat→Prop}{w:World}{b o:Nat}{vs:List Value}{x:Se}(hr:w.rangeAt b o vs)(h:shSe.R Z w vs x):∃ p q,w.cell? ⟨b,o,none⟩=some p∧w.cell? ⟨b,o+1,none⟩=some q∧RZ Z w p x.half∧RZ Z w q x.b:=by
 obtain ⟨p,q,rfl,h⟩:=h;exact ⟨p,q,hr 0 _ rfl,hr 1 _ rfl,h⟩
theorem aqq {Z:Nat→Prop}{w:World}{b o:Nat}{vs:List Value}{x:St}(hr:w.rangeAt b o vs)(h:shSt.R Z w vs x):∃ p q,w.cell? ⟨b,o,none⟩=some p∧w.cell? ⟨b,o+1,none⟩=some q∧RZ Z w p x.pub∧SZ shSe Z w q x.fors:=by
 obtain ⟨p,q,rfl,h⟩:=h;exact ⟨p,q,hr 0 _ rfl,hr 1 _ rfl,h⟩
def SL (w:World)(v:Value)(l:List Sd):Prop:=arZ shSd w v l
def EL (w:World)(v:Value)(l:List Se):Prop:=arZ shSe w v l
def TL11 (w:World)(v:Value)(l:List St):Prop:=arZ shSt w v l
structure PIn (w:World)(x y:Value)(p:Pa):Prop where
 mk ::
 pub:Rd w x p.pub
 step:arZ shSt w y p.step
theorem PIn.kp {w w':World}{x y:Value}{p:Pa}(h:PIn w x y p)(k:Kp w w'):PIn w' x y p:=⟨h.pub.kp k,arZ.kp h.step k⟩
def sdAt (l:List Sd)(i:Nat):Sd:=l.getD i ⟨0,[]⟩
def seAt (l:List Se)(i:Nat):Se:=l.getD i ⟨[],[]⟩
def stAt (l:List St)(i:Nat):St:=l.getD i ⟨[],[]⟩
theorem SL.node {w:World}{v:Value}{l:List Sd}(h:SL w v l){i:Nat}(hi:i<l.length):
  ∃ b off c q,v=.slice (some ⟨b,off,none⟩) l.length c∧b<w.heap.size∧w.cell? ⟨b,off+i*2,none⟩=some (.int .i64 (sdAt l i).node)∧w.cell? ⟨b,off+i*2+1,none⟩=some q∧Rd w q (sdAt l i).seed:=by
 obtain ⟨a,c,rfl,h1,h2⟩:=SE.shape h;obtain ⟨b,off,rfl,hb,hc⟩:=SE.at h (by omega);obtain ⟨vs,r1,r2⟩:=hc i l[i] (List.getElem?_eq_getElem hi);obtain ⟨q,d0,d1,d2⟩:=sd_at r1 r2;have e:sdAt l i=l[i]:=by unfold sdAt;rw[List.getD_eq_getElem?_getD,List.getElem?_eq_getElem hi];rfl
 rw[e];exact ⟨b,off,c,q,rfl,hb,d0,d1,d2.1⟩
theorem EL.node {w:World}{v:Value}{l:List Se}(h:EL w v l){i:Nat}(hi:i<l.length):
  ∃ b off c p q,v=.slice (some ⟨b,off,none⟩) l.length c∧b<w.heap.size∧w.cell? ⟨b,off+i*2,none⟩=some p∧w.cell? ⟨b,off+i*2+1,none⟩=some q∧Rd w p (seAt l i).half∧Rd w q (seAt l i).b:=by
 obtain ⟨a,c,rfl,h1,h2⟩:=SE.shape h;obtain ⟨b,off,rfl,hb,hc⟩:=SE.at h (by omega);obtain ⟨vs,r1,r2⟩:=hc i l[i] (List.getElem?_eq_getElem hi);obtain ⟨p,q,d0,d1,d2,d3⟩:=aqp r1 r2;have e:seAt l i=l[i]:=by unfold seAt;rw[List.getD_eq_getElem?_getD,List.getElem?_eq_getElem hi];rfl
 rw[e];exact ⟨b,off,c,p,q,rfl,hb,d0,d1,d2.1,d3.1⟩
theorem TL11.node {w:World}{v:Value}{l:List St}(h:TL11 w v l){i:Nat}(hi:i<l.length):
  ∃ b off c p q,v=.slice (some ⟨b,off,none⟩) l.length c∧b<w.heap.size∧w.cell? ⟨b,off+i*2,none⟩=some p∧w.cell? ⟨b,off+i*2+1,none⟩=some q∧Rd w p (stAt l i).pub∧EL w q (stAt l i).fors:=by
 obtain ⟨a,c,rfl,h1,h2⟩:=SE.shape h;obtain ⟨b,off,rfl,hb,hc⟩:=SE.at h (by omega);obtain ⟨vs,r1,r2⟩:=hc i l[i] (List.getElem?_eq_getElem hi);obtain ⟨p,q,d0,d1,d2,d3⟩:=aqq r1 r2;have e:stAt l i=l[i]:=by unfold stAt;rw[List.getD_eq_getElem?_getD,List.getElem?_eq_getElem hi];rfl
 rw[e];exact ⟨b,off,c,p,q,rfl,hb,d0,d1,d2.1,d3.1⟩
theorem SE.lit1 {α:Type}{S:Sh α}{w:World}{vs:List Value}{x:α}{cs:Array Value}(e:TypeId)(h:S.R noB w vs x)(hc:cs.toList=vs):arZ S (w.alloc (.cells cs e)) (.slice (some ⟨w.heap.size,0,none⟩) 1 1) [x]:=by
 refine ⟨_,1,rfl,Nat.le_refl _,by unfold maxLen;omega,fun h=>(by cases h),fun _=>⟨w.heap.size,0,rfl,by simp,fun i y hy=>?_⟩⟩;have hi:i<1:=(List.getElem?_eq_some_iff.1 hy).1;obtain rfl:i=0:=by omega
 cases hy;refine ⟨vs,fun j z hj=>?_,S.kp h ((Kp.refl w).alloc _)⟩;have hb:=(Bx.new w e cs).cell j;subst hc;rw[show 0+0*S.k+j=j by omega,hb,← Array.getElem?_toList];exact hj
def IZ (Z:Nat→Prop)(w:World)(v:Value)(l:List Int):Prop:=RI w v l∧Free Z v
theorem IZ.solid {Z Z':Nat→Prop}{w:World}{v:Value}{l:List Int}(h:IZ Z w v l)(hz:∀ g,Z' g→Z g∨¬abw w g):IZ Z' w v l:=⟨h.1,h.2.solid h.1.solid hz⟩
theorem IZ.step {Z:Nat→Prop}{w w':World}{v:Value}{l:List Int}(h:IZ Z w v l)(hs:Step Z w w'):IZ Z w' v l:=⟨h.1.stepF hs h.2,h.2⟩
theorem IZ.one {Z:Nat→Prop}{w:World}{v:Value}{l:List Int}(h:IZ Z w v l):v.oneCell'=true:=by
 obtain ⟨a,c,e⟩:=h.1.sl;obtain ⟨n,rfl⟩:=e;rfl
theorem ak1 {a:Value}(ha:a.oneCell'=true):∀ z∈[a],z.oneCell'=true:=by
 intro z hz;simp only[List.mem_cons,List.not_mem_nil,or_false] at hz;subst hz;exact ha
def shRI:Sh (List Int) where
 k:=1
 pos:=by decide
 R:=fun Z w vs x=>∃ q,vs=[q]∧IZ Z w q x
 len:=fun ⟨_,e,_⟩=>by rw[e];rfl
 one:=fun ⟨_,e,h⟩=>by rw[e];exact ak1 h.one
 solid:=fun ⟨q,e,h⟩ hz=>⟨q,e,h.solid hz⟩
 step:=fun ⟨q,e,h⟩ hs=>⟨q,e,h.step hs⟩
def shBy:Sh (List UInt8) where
 k:=1
 pos:=by decide
 R:=fun Z w vs x=>∃ q,vs=[q]∧RZ Z w q x
 len:=fun ⟨_,e,_⟩=>by rw[e];rfl
 one:=fun ⟨_,e,h⟩=>by rw[e];exact ak1 h.one
 solid:=fun ⟨q,e,h⟩ hz=>⟨q,e,h.solid hz⟩
 step:=fun ⟨q,e,h⟩ hs=>⟨q,e,h.step hs⟩
structure Stp where
 node:Int
 cover:List Int
def ahw:Sh Stp where
 k:=2
 pos:=by decide
 R:=fun Z w vs x=>∃ q,vs=[.int .i64 x.node,q]∧IZ Z w q x.cover
 len:=fun ⟨_,e,_⟩=>by rw[e];rfl
 one:=fun ⟨_,e,h⟩=>by rw[e];exact agr rfl h.one
 solid:=fun ⟨q,e,h⟩ hz=>⟨q,e,h.solid hz⟩
 step:=fun ⟨q,e,h⟩ hs=>⟨q,e,h.step hs⟩
theorem arZ.get {α:Type}{S:Sh α}{w:World}{v:Value}{l:List α}(h:arZ S w v l){i:Nat}{x:α}(hi:l[i]?=some x):
  ∃ b off c vs,v=.slice (some ⟨b,off,none⟩) l.length c∧b<w.heap.size∧w.rangeAt b (off+i*S.k) vs∧S.R noB w vs x:=by
 have hl:=(List.getElem?_eq_some_iff.1 hi).1;obtain ⟨a,c,rfl,h1,h2⟩:=SE.shape h;obtain ⟨b,off,rfl,hb,hc⟩:=SE.at h (by omega);obtain ⟨vs,r1,r2⟩:=hc i x hi;exact ⟨b,off,c,vs,rfl,hb,r1,r2⟩
def nsAt (l:List (List Int))(i:Nat):List Int:=l.getD i []
def bsAt (l:List (List UInt8))(i:Nat):List UInt8:=l.getD i []
def spAt (l:List Stp)(i:Nat):Stp:=l.getD i ⟨0,[]⟩
theorem arZ.bs {w:World}{v:Value}{l:List (List UInt8)}(h:arZ shBy w v l){i:Nat}(hi:i<l.length):
  ∃ b off c q,v=.slice (some ⟨b,off,none⟩) l.length c∧b<w.heap.size∧w.cell? ⟨b,off+i,none⟩=some q∧Rd w q (bsAt l i):=by
 obtain ⟨b,off,c,vs,e,hb,r1,q,rfl,r2⟩:=arZ.get h (List.getElem?_eq_getElem hi);have e2:bsAt l i=l[i]:=by unfold bsAt;rw[List.getD_eq_getElem?_getD,List.getElem?_eq_getElem hi];rfl
 rw[e2];have:=r1 0 _ rfl;exact ⟨b,off,c,q,e,hb,by simpa [shBy] using this,r2.1⟩
theorem arZ.sp {w:World}{v:Value}{l:List Stp}(h:arZ ahw w v l){i:Nat}(hi:i<l.length):
  ∃ b off c q,v=.slice (some ⟨b,off,none⟩) l.length c∧b<w.heap.size∧w.cell? ⟨b,off+i*2,none⟩=some (.int .i64 (spAt l i).node)∧w.cell? ⟨b,off+i*2+1,none⟩=some q∧RI w q (spAt l i).cover:=by
 obtain ⟨b,off,c,vs,e,hb,r1,q,rfl,r2⟩:=arZ.get h (List.getElem?_eq_getElem hi);have e2:spAt l i=l[i]:=by unfold spAt;rw[List.getD_eq_getElem?_getD,List.getElem?_eq_getElem hi];rfl
 rw[e2];exact ⟨b,off,c,q,e,hb,r1 0 _ rfl,r1 1 _ rfl,r2.1⟩
structure Cs (w w':World):Prop where
 mk ::
 os:w'.os=w.os
 tape:w'.tape=w.tape
 output:w'.output=w.output
 size:w.heap.size≤w'.heap.size
 block:∀ k,abw w k→w'.heap[k]?=w.heap[k]?
theorem Cs.solid {w w':World}(h:Cs w w'){k:Nat}(hk:abw w k):abw w' k:=by
 have:=h.block k hk;obtain ⟨a,b,c,e⟩:=hk;exact ⟨a,b,c,by rw[this,e]⟩
theorem Cs.trans {a b c:World}(h:Cs a b)(k:Cs b c):Cs a c:=
 ⟨k.os.trans h.os,k.tape.trans h.tape,k.output.trans h.output,Nat.le_trans h.size k.size,fun i hi=>(k.block i (h.solid hi)).trans (h.block i hi)⟩
theorem Kp.cs {w w':World}(h:Kp w w'):Cs w w':=⟨h.os,h.tape,h.output,h.size,fun k hk=>h.block k hk.lt⟩
theorem Cs.grown {w w':World}{m:Nat}(h:w.grownBy w' (some m))(hm:¬abw w m):Cs w w':=
 ⟨h.os,h.tape,h.output,h.size,fun k hk=>h.block k hk.lt fun e=>by cases e;exact hm hk⟩
theorem Cs.step {w w':World}(h:Cs w w'):Step (fun g=>¬abw w g) w w':=⟨h.os,h.tape,h.output,h.size,fun k _ hn=>h.block k (Classical.not_not.1 hn)⟩
theorem Step.cs {w w':World}{Y:Nat→Prop}(h:Step Y w w')(hY:∀ g,Y g→¬abw w g):Cs w w':=⟨h.os,h.tape,h.output,h.size,fun k hk=>h.block k hk.lt fun e=>hY k e hk⟩
theorem Rd.cs {w w':World}{v:Value}{l:List UInt8}(h:Rd w v l)(k:Cs w w'):Rd w' v l:=h.stepF k.step fun x n c e h0 hn=>hn (h.solid x n c e h0)
theorem RI.cs {w w':World}{v:Value}{l:List Int}(h:RI w v l)(k:Cs w w'):RI w' v l:=h.stepF k.step fun x n c e h0 hn=>hn (h.solid x n c e h0)
theorem arZ.cs {α:Type}{S:Sh α}{w w':World}{v:Value}{l:List α}(h:arZ S w v l)(k:Cs w w'):arZ S w' v l:=
 ((SZ.step (Z:=fun g=>¬abw w g) (SZ.solidly (arZ.sz h) fun g hg=>.inr hg) k.step).1).mono fun _ h=>h.elim
theorem Cs.cell {w w':World}(h:Cs w w'){a:Addr}{v:Value}(hc:w.cell? a=some v):w'.cell? a=some v:=by
 have:=h.block a.block (abw.of_cell hc);rw[World.cell?_of_block (w:=w) (a:=a) this];exact hc
theorem Bx.cs {w w':World}{b:Nat}{T:TypeId}{cs:Array Value}(h:Bx w b T cs)(k:Cs w w'):Bx w' b T cs:=(k.block b ⟨_,_,_,h⟩).trans h
end Go.Proofs.YthmhklmkgkfcpaaGreatDoor
namespace Go.Proofs.YthmhklmkgkfcpaaGreatDoor
open Go.RowKit Go.Maps
def adx:Value→Option (DataW Value × List MemPlace):=fun v=>some (.held v,[])
def sdV (x:Int)(q:Value):Value:=.agg #[.int .i64 x,q]
def SdIn (w:World)(v:Value)(s:Sd):Prop:=∃ q,v=sdV s.node q∧Rd w q s.seed
theorem SdIn.cs {w w':World}{v:Value}{s:Sd}(h:SdIn w v s)(k:Cs w w'):SdIn w' v s:=by
 obtain ⟨q,e,r⟩:=h;exact ⟨q,e,r.cs k⟩
structure KM (P:Program)(k:TypeId)(w:World)(m n:Nat)(S:Sd→Prop):Prop where
 mk ::
 ex:∃ D,w.ownsMap P k adx m n D∧(∀ x:Int,Maps.has D (.int .i64 x)=true↔∃ s,S s∧s.node=x)∧∀ s,S s→∃ v,(∀ zd,D.atKey (.int .i64 s.node) zd=.held v)∧SdIn w v s
 one:∀ s s',S s→S s'→s.node=s'.node→s=s'
section
variable {P : Program} {k : TypeId} {w w' : World} {m n : Nat} {S : Sd → Prop}
theorem KM.lt (h:KM P k w m n S):m<w.heap.size:=by
 obtain ⟨D,h1,_⟩:=h.ex;exact h1.lt
theorem KM.nosolid (h:KM P k w m n S):¬abw w m:=by
 obtain ⟨D,⟨es,c,h1,_⟩,_⟩:=h.ex;exact ait h1
theorem KM.made (w:World)(P:Program)(k:TypeId):KM P k (w.alloc (.map #[] 0)) w.heap.size 0 (fun _=>False):=
 ⟨⟨_,World.ownsMap_made w P k adx,fun x=>⟨fun h=>by simp[Maps.has] at h,fun ⟨s,h,_⟩=>h.elim⟩,fun s h=>h.elim⟩,fun s s' h=>h.elim⟩
theorem KM.kp (h:KM P k w m n S)(hk:Kp w w'):KM P k w' m n S:=by
 obtain ⟨⟨D,h1,h2,h3⟩,h4⟩:=h;refine ⟨⟨D,h1.kept ⟨hk.os,hk.tape,hk.output,hk.size,fun i hi _=>hk.block i hi⟩ (row:=none) (by simp),h2,fun s hs=>?_⟩,h4⟩;obtain ⟨v,a,b⟩:=h3 s hs;exact ⟨v,a,b.cs hk.cs⟩
theorem KM.mono (h:KM P k w m n S){n':Nat}(hn:n≤n'):KM P k w m n' S:=by
 obtain ⟨⟨D,h1,h2,h3⟩,h4⟩:=h;exact ⟨⟨D,h1.mono hn,h2,h3⟩,h4⟩
theorem KM.congr (h:KM P k w m n S){S':Sd→Prop}(hs:∀ s,S' s↔S s):KM P k w m n S':=by
 have:S'=S:=funext fun s=>propext (hs s)
 rw[this];exact h
theorem KM.put {D:DataW Value}{s:Sd}{v:Value}(h4:∀ s s',S s→S s'→s.node=s'.node→s=s')(hm:IsMap D)(h2:∀ x:Int,Maps.has D (.int .i64 x)=true↔∃ s,S s∧s.node=x)
  (h3:∀ s,S s→∃ v,(∀ zd,D.atKey (.int .i64 s.node) zd=.held v)∧SdIn w v s) (hc:Cs w w') (hv:SdIn w v s) (h1:w'.ownsMap P k adx m n (D.put (.int .i64 s.node) (.held v))):
  KM P k w' m n (fun y=>y=s∨(S y∧y.node≠s.node)):=by
 have hk:WideAt.IsKeyLit (.int .i64 s.node):=trivial;refine ⟨⟨_,h1,fun x=>?_,fun y hy=>?_⟩,fun a b ha hb e=>?_⟩
 ·by_cases e:x=s.node
  ·subst e
   rw[has_put_same hm hk];exact ⟨fun _=>⟨s,.inl rfl,rfl⟩,fun _=>rfl⟩
  ·rw[has_put_other (fun h=>e (by simpa using h)),h2 x]
   constructor
   ·rintro ⟨y,a,b⟩
    exact ⟨y,.inr ⟨a,by rw[b];exact e⟩,b⟩
   ·rintro ⟨y,a | ⟨a,_⟩,b⟩
    ·subst a;exact absurd b.symm e
    ·exact ⟨y,a,b⟩
 ·rcases hy with rfl | ⟨a,b⟩
  ·exact ⟨v,fun zd=>atKey_put_same hm hk _ zd,hv.cs hc⟩
  ·obtain ⟨v',c1,c2⟩:=h3 y a
   refine ⟨v',fun zd=>?_,c2.cs hc⟩;rw[atKey_put_other (fun h=>b (by simpa using h))];exact c1 zd
 ·rcases ha with rfl | ⟨a1,a2⟩ <;> rcases hb with rfl | ⟨b1,b2⟩
  ·rfl
  ·exact absurd e.symm b2
  ·exact absurd e a2
  ·exact h4 a b a1 b1 e
theorem KM.drop {D:DataW Value}{x:Int}(h4:∀ s s',S s→S s'→s.node=s'.node→s=s')(h2:∀ x:Int,Maps.has D (.int .i64 x)=true↔∃ s,S s∧s.node=x)
  (h3:∀ s,S s→∃ v,(∀ zd,D.atKey (.int .i64 s.node) zd=.held v)∧SdIn w v s) (hc:Cs w w') (h1:w'.ownsMap P k adx m n (D.del (.int .i64 x))):
  KM P k w' m n (fun y=>S y∧y.node≠x):=by
 refine ⟨⟨_,h1,fun z=>?_,fun y hy=>?_⟩,fun a b ha hb e=>h4 a b ha.1 hb.1 e⟩
 ·by_cases e:z=x
  ·subst e
   rw[has_del_same];exact ⟨fun h=>(by cases h),fun ⟨y,a,b⟩=>absurd b a.2⟩
  ·rw[has_del_other (fun h=>e (by simpa using h)),h2 z]
   constructor
   ·rintro ⟨y,a,b⟩
    exact ⟨y,⟨a,by rw[b];exact e⟩,b⟩
   ·rintro ⟨y,a,b⟩
    exact ⟨y,a.1,b⟩
 ·obtain ⟨v',c1,c2⟩:=h3 y hy.1
  refine ⟨v',fun zd=>?_,c2.cs hc⟩;rw[atKey_del_other (fun h=>hy.2 (by simpa using h))];exact c1 zd
variable {ops : Array Oper} {rest : List Oper} {o : Oper} {a : Act} {Q : Exit → Act → World → Prop} {e : TypeId}
theorem agT (hg:o.guard=none)(mo xo vo:Operand)(t:TypeId)(hop:o.op=Op.mapUpdate t mo xo vo)(K:Keyed P k)(ht:P.underlying t=some (.map k e))(hm:a.eval mo=.map (some m))(h:KM P k w m n S)(hn:n<maxLen)
  (s:Sd) (v:Value) (hx:a.eval xo=.int .i64 s.node) (hv:a.eval vo=v) (hkey:keyOf P k (.int .i64 s.node)=some (.int .i64 s.node)) (hs:SdIn w v s)
  (hK:∀ w',KM P k w' m (n+1) (fun y=>y=s∨(S y∧y.node≠s.node))→w.grownBy w' (some m)→wpList P ops Q rest (a.put o.dst undef) w'):wpList P ops Q (o :: rest) a w:=by
 obtain ⟨⟨D,h1,h2,h3⟩,h4⟩:=h;have hns:=(KM.mk ⟨D,h1,h2,h3⟩ h4:KM P k w m n S).nosolid;refine wpList_mapUpdate_own w hg mo xo vo t hop k e K ht adx m n D hm h1 hn _ _ _ hx hv hkey (.held v) [] rfl fun w' o' g'=>hK w' ?_ g'
 exact KM.put h4 h1.isMap h2 h3 (Cs.grown g' hns) hs o'
theorem af1 (hg:o.guard=none)(mo xo:Operand)(t:TypeId)(hop:o.op=Op.call { callee:=Callee.builtin Builtin.delete,args:=#[mo,xo],argTypes:=#[t,k] })(K:Keyed P k)(ht:P.underlying t=some (.map k e))
  (hm:a.eval mo=.map (some m)) (h:KM P k w m n S) (x:Int) (hx:a.eval xo=.int .i64 x) (hkey:keyOf P k (.int .i64 x)=some (.int .i64 x))
  (hK:∀ w',KM P k w' m n (fun y=>S y∧y.node≠x)→w.grownBy w' (some m)→wpList P ops Q rest (a.put o.dst (.tuple #[])) w'):wpList P ops Q (o :: rest) a w:=by
 obtain ⟨⟨D,h1,h2,h3⟩,h4⟩:=h;have hns:=(KM.mk ⟨D,h1,h2,h3⟩ h4:KM P k w m n S).nosolid;refine wpList_delete_own w hg mo xo t k hop e K ht adx m n D hm h1 _ _ hx hkey fun w' o' g'=>hK w' ?_ g'.grown
 exact KM.drop h4 h2 h3 (Cs.grown g'.grown hns) o'
theorem ae4 (hg:o.guard=none)(mo xo:Operand)(t:TypeId)(hop:o.op=Op.lookup t mo xo true)(K:Keyed P k)(ht:P.underlying t=some (.map k e)){z:Value}(hz:(zeroValue e).run P w=.ok z w)
  (hm:a.eval mo=.map (some m)) (h:KM P k w m n S) (s:Sd) (hs:S s) (hx:a.eval xo=.int .i64 s.node) (hkey:keyOf P k (.int .i64 s.node)=some (.int .i64 s.node))
  (hK:∀ q,Rd w q s.seed→wpList P ops Q rest (a.put o.dst (.tuple #[sdV s.node q,.bool true])) w):wpList P ops Q (o :: rest) a w:=by
 obtain ⟨⟨D,h1,h2,h3⟩,h4⟩:=h;obtain ⟨v,c1,q,rfl,c2⟩:=h3 s hs;refine wpList_lookup_own_ok w hg mo xo t hop k e K ht adx hz (.held z) [] rfl m n D hm h1 _ _ hx hkey fun v' ps hv=>?_
 have e1:DataW.held v'=.held (sdV s.node q):=by
  have:=congrArg (fun x=>x.map Prod.fst) hv;simpa [adx,c1] using this
 cases e1;rw[(h2 _).2 ⟨s,hs,rfl⟩];exact hK q c2
theorem afO (hg:o.guard=none)(mo xo:Operand)(t:TypeId)(hop:o.op=Op.lookup t mo xo true)(K:Keyed P k)(ht:P.underlying t=some (.map k e)){z:Value}(hz:(zeroValue e).run P w=.ok z w)
  (hm:a.eval mo=.map (some m)) (h:KM P k w m n S) (x:Int) (hs:∀ s,S s→s.node≠x) (hx:a.eval xo=.int .i64 x) (hkey:keyOf P k (.int .i64 x)=some (.int .i64 x))
  (hK:wpList P ops Q rest (a.put o.dst (.tuple #[z,.bool false])) w):wpList P ops Q (o :: rest) a w:=by
 obtain ⟨⟨D,h1,h2,h3⟩,h4⟩:=h;have hn:Maps.has D (.int .i64 x)=false:=by
  cases hh:Maps.has D (.int .i64 x)
  ·rfl
  ·obtain ⟨s,a,b⟩:=(h2 x).1 hh
   exact absurd b (hs s a)
 refine wpList_lookup_own_ok w hg mo xo t hop k e K ht adx hz (.held z) [] rfl m n D hm h1 _ _ hx hkey fun v' ps hv=>?_
 have e1:DataW.held v'=.held z:=by
  have:=congrArg (fun x=>x.map Prod.fst) hv;simpa [adx,atKey_of_not_has hn] using this
 cases e1;rw[hn];exact hK
theorem aiT (hg:o.guard=none)(mo xo:Operand)(t:TypeId)(hop:o.op=Op.lookup t mo xo false)(K:Keyed P k)(ht:P.underlying t=some (.map k e)){z:Value}(hz:(zeroValue e).run P w=.ok z w)
  (hm:a.eval mo=.map (some m)) (h:KM P k w m n S) (s:Sd) (hs:S s) (hx:a.eval xo=.int .i64 s.node) (hkey:keyOf P k (.int .i64 s.node)=some (.int .i64 s.node))
  (hK:∀ q,Rd w q s.seed→wpList P ops Q rest (a.put o.dst (sdV s.node q)) w):wpList P ops Q (o :: rest) a w:=by
 obtain ⟨⟨D,h1,h2,h3⟩,h4⟩:=h;obtain ⟨v,c1,q,rfl,c2⟩:=h3 s hs;refine wpList_plain hg fun K' hK'=>?_
 obtain ⟨v',ps,hrun,hv⟩:=h1.lookup K ht hz (R:=adx) (zd:=.held z) (zp:=[]) rfl hkey;have e1:DataW.held v'=.held (sdV s.node q):=by
  have:=congrArg (fun x=>x.map Prod.fst) hv;simpa [adx,c1] using this
 cases e1;unfold Oper.wp;simp[execOp,hop,hm,hx,hrun,Result.andThen];exact hK' _ _ (hK q c2)
end
end Go.Proofs.YthmhklmkgkfcpaaGreatDoor
namespace Go.Proofs.YthmhklmkgkfcpaaGreatDoor
open Go.RowKit Go.ChangeShapes Go.WideShapes Go.Deep
section
variable {H : Type} {enc : TypeId × Value → H} {P : Program} {w : World} {base : Nat} {spare : Nat → Bool} {held : Bool}
theorem arZ.of_cells {α:Type}(S:Sh α)(d:α){t e:TypeId}{fuel:Nat}{cs:List Value}{x:DataW H × List MemPlace}(ht:P.underlying t=some (.slice e))(hC:P.cellsOf e=S.k)
  (helem:∀ n' cs' x',DataW.trod enc P w base spare held n' e cs'=some x'→cs'.length=S.k→∃ y,S.R noB w cs' y)
  (h:DataW.trod enc P w base spare held fuel t cs=some x):∃ v l,cs=[v]∧arZ S w v l:=by
 haveI:Inhabited α:=⟨d⟩
 rcases open_slice ht h with ⟨hcs,_⟩ | ⟨a,len,cap,m,n,D,Pl,hcs,_,hl,hm,hmm,_,hel⟩
 ·exact ⟨_,[],hcs,arZ.nil w⟩
 ·have hlm:len≤m:=by rw[hmm];split <;> omega
  rw[hC] at hel;have key:∀ i,i<len→∃ y:α,∃ vs:List Value,vs.length=S.k∧(∀ j z,vs[j]?=some z→w.cell? ((a.add (i*S.k)).add j)=some z)∧S.R noB w vs y:=by
   intro i hil;obtain ⟨cs',hcc,htr⟩:=hel i (by omega);obtain ⟨_,hlk,hat⟩:=World.cells?_some hcc;obtain ⟨y,hy⟩:=helem _ _ _ htr hlk;refine ⟨y,cs',hlk,fun j z hj=>?_,hy⟩;have hjl:=(List.getElem?_eq_some_iff.1 hj).1;rw[hat j (by omega)];exact hj
  obtain ⟨l,hll,hlq⟩:=aex len _ key d;refine ⟨_,l,by rw[hcs,hll],some a,cap,rfl,by omega,hm,fun h=>(by cases h),fun h0=>?_⟩;rw[hll] at h0;obtain ⟨b,off,spot⟩:=a;obtain ⟨vs,k1,k2,_⟩:=hlq 0 h0;have hp:=S.pos;have hc0:=k2 0 vs[0] (List.getElem?_eq_getElem (by omega));have hs:spot=none:=by simpa [Addr.add] using World.cell?_spot hc0
  subst hs;have hbl:=World.block_lt_of_cell? w _ hc0;simp only[Addr.add_mid] at hbl;refine ⟨b,off,rfl,hbl,fun i y hy=>?_⟩;have hi:i<len:=by rw[← hll];exact (List.getElem?_eq_some_iff.1 hy).1
  obtain ⟨vs,k1,k2,k3⟩:=hlq i hi;have ey:l.getD i d=y:=by rw[List.getD_eq_getElem?_getD,hy];rfl
  refine ⟨vs,fun j z hj=>?_,by rw[← ey];exact k3⟩;have:=k2 j z hj;simpa only [Addr.add_mid] using this
theorem alU {e:TypeId}{f0 f1:Field}(he:P.underlying e=some (.struct #[f0,f1]))(hone:oneCellFields P #[f0,f1]=true){n:Nat}{cs:List Value}{x:DataW H × List MemPlace}
  (h:DataW.trod enc P w base spare held n e cs=some x) (hl:cs.length=2):
  ∃ c0 c1 n' y0 y1,cs=[c0,c1]∧DataW.trod enc P w base spare held n' f0.type [c0]=some y0∧DataW.trod enc P w base spare held n' f1.type [c1]=some y1:=by
 obtain ⟨xs,n',_,_,_,hxs,hg⟩:=DataW.trod_struct he h
 obtain ⟨o0,k0⟩:=hone_of hone 0 f0 rfl
 obtain ⟨o1,k1⟩:=hone_of hone 1 f1 rfl
 match cs,hl with
 | [c0,c1],_=>
  have hxl:xs.length=2:=hxs
  match xs,hxl with
  | [y0,y1],_=>
   have g0:DataW.trod enc P w base spare held n' f0.type [c0]=some y0:=by simpa [o0,k0] using hg 0 f0 rfl
   have g1:DataW.trod enc P w base spare held n' f1.type [c1]=some y1:=by simpa [o1,k1] using hg 1 f1 rfl
   exact ⟨c0,c1,n',y0,y1,rfl,g0,g1⟩
theorem EL.of_cells {t e eb:TypeId}{f0 f1:Field}{fuel:Nat}{cs:List Value}{x:DataW H × List MemPlace}(ht:P.underlying t=some (.slice e))(he:P.underlying e=some (.struct #[f0,f1]))
  (hone:oneCellFields P #[f0,f1]=true) (hC:P.cellsOf e=2) (h0:P.underlying f0.type=some (.slice eb)) (h1:P.underlying f1.type=some (.slice eb)) (hb:P.underlying eb=some (.int .u8)) (hbc:P.cellsOf eb=1)
  (h:DataW.trod enc P w base spare held fuel t cs=some x):∃ v l,cs=[v]∧EL w v l:=by
 refine arZ.of_cells shSe ⟨[],[]⟩ ht hC (fun n' cs' x' htr hl=>?_) h;obtain ⟨c0,c1,n2,y0,y1,rfl,g0,g1⟩:=alU he hone htr hl;obtain ⟨l0,r0⟩:=Rd.of_one h0 hb hbc g0;obtain ⟨l1,r1⟩:=Rd.of_one h1 hb hbc g1;exact ⟨⟨l0,l1⟩,c0,c1,rfl,RZ.of r0,RZ.of r1⟩
theorem TL11.of_cells {t e eb es:TypeId}{f0 f1 g0 g1:Field}{fuel:Nat}{cs:List Value}{x:DataW H × List MemPlace}(ht:P.underlying t=some (.slice e))(he:P.underlying e=some (.struct #[f0,f1]))
  (hone:oneCellFields P #[f0,f1]=true) (hC:P.cellsOf e=2) (h0:P.underlying f0.type=some (.slice eb)) (h1:P.underlying f1.type=some (.slice es))
  (hes:P.underlying es=some (.struct #[g0,g1])) (hone2:oneCellFields P #[g0,g1]=true) (hC2:P.cellsOf es=2) (h2:P.underlying g0.type=some (.slice eb)) (h3:P.underlying g1.type=some (.slice eb))
  (hb:P.underlying eb=some (.int .u8)) (hbc:P.cellsOf eb=1)
  (h:DataW.trod enc P w base spare held fuel t cs=some x):∃ v l,cs=[v]∧TL11 w v l:=by
 refine arZ.of_cells shSt ⟨[],[]⟩ ht hC (fun n' cs' x' htr hl=>?_) h;obtain ⟨c0,c1,n2,y0,y1,rfl,t0,t1⟩:=alU he hone htr hl;obtain ⟨l0,r0⟩:=Rd.of_one h0 hb hbc t0;obtain ⟨v1,l1,e1,r1⟩:=EL.of_cells h1 hes hone2 hC2 h2 h3 hb hbc t1;obtain rfl:c1=v1:=by simpa using e1
 exact ⟨⟨l0,l1⟩,c0,c1,rfl,RZ.of r0,arZ.sz r1⟩
theorem PIn.of_cells {tp e eb es:TypeId}{p0 p1 f0 f1 g0 g1:Field}{fuel:Nat}{cs:List Value}{x:DataW H × List MemPlace}(hp:P.underlying tp=some (.struct #[p0,p1]))(honep:oneCellFields P #[p0,p1]=true)(hCp:P.cellsOf tp=2)
  (hp0:P.underlying p0.type=some (.slice eb)) (ht:P.underlying p1.type=some (.slice e)) (he:P.underlying e=some (.struct #[f0,f1]))
  (hone:oneCellFields P #[f0,f1]=true) (hC:P.cellsOf e=2) (h0:P.underlying f0.type=some (.slice eb)) (h1:P.underlying f1.type=some (.slice es))
  (hes:P.underlying es=some (.struct #[g0,g1])) (hone2:oneCellFields P #[g0,g1]=true) (hC2:P.cellsOf es=2) (h2:P.underlying g0.type=some (.slice eb)) (h3:P.underlying g1.type=some (.slice eb))
  (hb:P.underlying eb=some (.int .u8)) (hbc:P.cellsOf eb=1)
  (h:DataW.trod enc P w base spare held fuel tp cs=some x):∃ u v p,cs=[u,v]∧PIn w u v p:=by
 obtain ⟨_,_,_,_,hlen,_⟩:=DataW.trod_struct hp h;obtain ⟨c0,c1,n2,y0,y1,rfl,t0,t1⟩:=alU hp honep h (by rw[hlen,hCp]);obtain ⟨l0,r0⟩:=Rd.of_one hp0 hb hbc t0;obtain ⟨v1,l1,e1,r1⟩:=TL11.of_cells (e:=e) (es:=es) ht he hone hC h0 h1 hes hone2 hC2 h2 h3 hb hbc t1;obtain rfl:c1=v1:=by simpa using e1
 exact ⟨c0,c1,⟨l0,l1⟩,rfl,⟨r0,r1⟩⟩
end
section
variable {H : Type} {enc : TypeId × Value → H} {P : Program} {w : World} {base : Nat} {spare : Nat → Bool} {held : Bool}
theorem arZ.of_cells_q {α:Type}(S:Sh α)(d:α)(Q:α→Prop){t e:TypeId}{fuel:Nat}{cs:List Value}{x:DataW H × List MemPlace}(ht:P.underlying t=some (.slice e))(hC:P.cellsOf e=S.k)
  (helem:∀ n' cs' x',DataW.trod enc P w base spare held n' e cs'=some x'→cs'.length=S.k→∃ y,S.R noB w cs' y∧Q y)
  (h:DataW.trod enc P w base spare held fuel t cs=some x):∃ v l,cs=[v]∧arZ S w v l∧∀ k,k<l.length→Q (l.getD k d):=by
 haveI:Inhabited α:=⟨d⟩
 rcases open_slice ht h with ⟨hcs,_⟩ | ⟨a,len,cap,m,n,D,Pl,hcs,_,hl,hm,hmm,_,hel⟩
 ·exact ⟨_,[],hcs,arZ.nil w,fun k hk=>by simp at hk⟩
 ·have hlm:len≤m:=by rw[hmm];split <;> omega
  rw[hC] at hel;have key:∀ i,i<len→∃ y:α,∃ vs:List Value,vs.length=S.k∧(∀ j z,vs[j]?=some z→w.cell? ((a.add (i*S.k)).add j)=some z)∧S.R noB w vs y∧Q y:=by
   intro i hil;obtain ⟨cs',hcc,htr⟩:=hel i (by omega);obtain ⟨_,hlk,hat⟩:=World.cells?_some hcc;obtain ⟨y,hy⟩:=helem _ _ _ htr hlk;refine ⟨y,cs',hlk,fun j z hj=>?_,hy⟩;have hjl:=(List.getElem?_eq_some_iff.1 hj).1;rw[hat j (by omega)];exact hj
  obtain ⟨l,hll,hlq⟩:=aex len _ key d;refine ⟨_,l,by rw[hcs,hll],⟨some a,cap,rfl,by omega,hm,fun h=>(by cases h),fun h0=>?_⟩,fun k hk=>by obtain ⟨_,_,_,_,hq⟩:=hlq k (by omega);exact hq⟩;rw[hll] at h0;obtain ⟨b,off,spot⟩:=a;obtain ⟨vs,k1,k2,_,_⟩:=hlq 0 h0;have hp:=S.pos;have hc0:=k2 0 vs[0] (List.getElem?_eq_getElem (by omega));have hs:spot=none:=by simpa [Addr.add] using World.cell?_spot hc0
  subst hs;have hbl:=World.block_lt_of_cell? w _ hc0;simp only[Addr.add_mid] at hbl;refine ⟨b,off,rfl,hbl,fun i y hy=>?_⟩;have hi:i<len:=by rw[← hll];exact (List.getElem?_eq_some_iff.1 hy).1
  obtain ⟨vs,k1,k2,k3,_⟩:=hlq i hi;have ey:l.getD i d=y:=by rw[List.getD_eq_getElem?_getD,hy];rfl
  refine ⟨vs,fun j z hj=>?_,by rw[← ey];exact k3⟩;have:=k2 j z hj;simpa only [Addr.add_mid] using this
theorem SL.of_cells_q {t e eb:TypeId}{f0 f1:Field}{fuel:Nat}{cs:List Value}{x:DataW H × List MemPlace}(ht:P.underlying t=some (.slice e))(he:P.underlying e=some (.struct #[f0,f1]))
  (hone:oneCellFields P #[f0,f1]=true) (hC:P.cellsOf e=2) (h0:P.underlying f0.type=some (.int .i64)) (h1:P.underlying f1.type=some (.slice eb)) (hb:P.underlying eb=some (.int .u8)) (hbc:P.cellsOf eb=1)
  (h:DataW.trod enc P w base spare held fuel t cs=some x):∃ v l,cs=[v]∧SL w v l∧∀ k,k<l.length→-9223372036854775808≤(sdAt l k).node∧(sdAt l k).node≤9223372036854775807:=by
 refine arZ.of_cells_q shSd ⟨0,[]⟩ (fun y=>-9223372036854775808≤y.node∧y.node≤9223372036854775807) ht hC (fun n' cs' x' htr hl=>?_) h;obtain ⟨c0,c1,n2,y0,y1,rfl,g0,g1⟩:=alU he hone htr hl;obtain ⟨n0,e0,_,wf⟩:=DataW.trod_int h0 g0;cases e0;obtain ⟨l1,r1⟩:=Rd.of_one h1 hb hbc g1;exact ⟨⟨n0,l1⟩,⟨c1,rfl,RZ.of r1⟩,wf64 wf⟩
end
end Go.Proofs.YthmhklmkgkfcpaaGreatDoor
