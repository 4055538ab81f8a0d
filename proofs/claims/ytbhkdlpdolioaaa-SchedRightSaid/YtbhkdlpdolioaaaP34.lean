import Derived.Test.YtbhkdlpdolioaaaP33
set_option linter.unusedVariables false
set_option linter.unusedSimpArgs false
set_option maxHeartbeats 8000000
set_option maxRecDepth 100000
namespace Go.Proofs.Ytbhkdlpdolioaaa
open Go.RowKit
def oneS (k:List UInt8)(s:ByteArray)(c:List UInt8):List UInt8:=expL k (labI s.data.toList c 32) 32
theorem aao (k:List UInt8)(s:ByteArray)(c:List UInt8):(oneS k s c).length=32:=aba _ (aaB _ _) 32
def abd:ByteArray:=⟨#[106,111,105,110,101,114]⟩
def aaG:ByteArray:=⟨#[101,112,111,99,104]⟩
def aec:ByteArray:=⟨#[105,110,105,116]⟩
def aed:ByteArray:=⟨#[115,101,110,100]⟩
def abX:ByteArray:=⟨#[101,120,112,111,114,116]⟩
def abs:ByteArray:=⟨#[99,111,110,102,105,114,109]⟩
def abY:ByteArray:=⟨#[114,101,115,117,109,101]⟩
def aax:ByteArray:=⟨#[115,104,97,114,101,100]⟩
def abq:ByteArray:=⟨#[101,120,112,111,114,116,101,100]⟩
def ctxE (g:List UInt8)(n:Int)(t l:List UInt8):Int:=if g.length≤255∧t.length=32∧l.length=32∧abt n 6 then 0 else 1
def ctxB (g:List UInt8)(n:Int)(t l:List UInt8):List UInt8:=if ctxE g n t l=0 then rowB g++numB n 6++(rowB t++rowB l) else []
def agE (a b:List UInt8):Int:=if a.length=32∧b.length=32 then 0 else 1
def agR (a b:List UInt8)(s:ByteArray)(c:List UInt8):List UInt8:=if agE a b=0 then oneS (macB a b) s c else []
theorem abN {a b:List UInt8}(h1:a.length=32)(h2:b.length=32)(s:ByteArray)(c:List UInt8):agE a b=0∧agR a b s c=oneS (macB a b) s c:=by simp[agE,agR,h1,h2]
theorem aeM {a b:List UInt8}(h:¬(a.length=32∧b.length=32))(s:ByteArray)(c:List UInt8):agE a b=1∧agR a b s c=[]:=by simp[agE,agR,h]
structure Eps where
 i:List UInt8
 s:List UInt8
 x:List UInt8
 c:List UInt8
 r:List UInt8
def aee (k:List UInt8):Eps:=⟨oneS k aec [],oneS k aed [],oneS k abX [],oneS k abs [],oneS k abY []⟩
def epR (a b c:List UInt8):Eps:=if agE a b=0 then aee (oneS (macB a b) aaG c) else ⟨[],[],[],[],[]⟩
def Eps.ok (e:Eps):Prop:=e.i.length=32∧e.s.length=32∧e.x.length=32∧e.c.length=32∧e.r.length=32
instance (e:Eps):Decidable e.ok:=by unfold Eps.ok;infer_instance
theorem adW (k:List UInt8):(aee k).ok:=⟨aao _ _ _,aao _ _ _,aao _ _ _,aao _ _ _,aao _ _ _⟩
def Eps.few (e:Eps):Prop:=e.i.length≤40∧e.s.length≤40∧e.x.length≤40∧e.c.length≤40∧e.r.length≤40
instance (e:Eps):Decidable e.few:=by unfold Eps.few;infer_instance
def Eps.same (e f:Eps):Bool:=decide (e.i=f.i) && (decide (e.s=f.s) && (decide (e.x=f.x) && (decide (e.c=f.c) && decide (e.r=f.r))))
theorem Eps.same_self (e:Eps):e.same e=true:=by simp[Eps.same]
def shF (l:List (List UInt8)):Nat→List UInt8
 | 0=>List.replicate 32 0
 | k+1=>macB (shF l k) (oneS (l.getD k []) aax (be 2 k))
theorem abZ (l:List (List UInt8)):∀ k,(shF l k).length=32
 | 0=>by simp[shF]
 | _+1=>aaI _ _
theorem adX (l:List (List UInt8))(n:Nat):∀ k,k≤n→shF (l.take n) k=shF l k
 | 0,_=>rfl
 | k+1,h=>by
  rw[shF,shF,adX l n k (by omega)]
  congr 2
  rw[List.getD_eq_getElem?_getD,List.getD_eq_getElem?_getD,List.getElem?_take_of_lt (by omega)]
def logE (l:List UInt8):Int:=if l.length=32 then 0 else 1
def logR (l c b:List UInt8):List UInt8:=if logE l=0 then aam (rowB l++rowB c++rowB b) else []
def prE (e:Eps)(l:List UInt8):Int:=if e.ok∧l.length=32 then 0 else 1
def prR (e:Eps)(l:List UInt8):List UInt8:=if prE e l=0 then macB e.c l else []
def exE (e:Eps)(n:Int):Int:=if e.ok then expE n else 1
def exR (e:Eps)(s:ByteArray)(c:List UInt8)(n:Int):List UInt8:=if e.ok then labR (oneS e.x s []) abq.data.toList (aam c) n else []
end Go.Proofs.Ytbhkdlpdolioaaa
