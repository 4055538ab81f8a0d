import Derived.Test.YtbhkdlpdolioaaaP1
import Derived.Test.YtbhkdlpdolioaaaP2
import Derived.Test.YtbhkdlpdolioaaaP3
import Derived.Deep.QuietTactic
import Derived.BigQuiet
import Derived.Maps.AppendAt
import Derived.Deep.MidRow
import Derived.Test.YtbhkdlpdolioaaaRows
import Derived.WalkSpells
import Derived.Lib.Hide
import Derived.Outline
import Derived.Lib.SmallJoins
import Derived.ProofKit
import Derived.OpenShut
set_option linter.unusedVariables false
set_option linter.unusedSimpArgs false
set_option maxHeartbeats 8000000
set_option maxRecDepth 100000
namespace Go.Proofs.Ytbhkdlpdolioaaa
open Go.RowKit
theorem abP {P:Program}{f:FuncId}{args:Array Value}{w:World}{n:Nat}{v:Value}
  (h:Calls P f args (w.drewN n) fun e w'=>e=.returned v∧w.drewN n=w'):Calls P f args (w.drewN n) fun e w''=>e=.returned v∧∃ m,w''=w.drewN m:=
 h.mono fun _ _ ⟨he,hm⟩=>⟨he,n,hm.symm⟩
theorem Kp.drewN {a b:World}(h:Kp a b)(n:Nat):Kp a (b.drewN n):=by
 induction n with
 | zero=>exact h
 | succ n ih=>exact ih.drew
def Yes (w:World)(e:Ending)(w':World):Prop:=e=.returned (.bool true)∧Kp w w'
def isTB (n:Int):Bool:=(List.range 11).any fun k=>decide (n=((2 ^ k:Nat):Int))
def okN (x:Int):Prop:=0≤x∧x≤2046
instance (x:Int):Decidable (okN x):=by unfold okN;infer_instance
def okC (a b n:Int):Prop:=isTB n=true∧0≤a∧0≤b∧a<n∧b<n
instance (a b n:Int):Decidable (okC a b n):=by unfold okC;infer_instance
structure Nod where
 mk ::
 kind:Int
 name:Int
 pub:List UInt8
 un:List Int
 hash:List UInt8
theorem Nod.eq_iff (a b:Nod):a=b↔a.kind=b.kind∧a.name=b.name∧a.pub=b.pub∧a.un=b.un∧a.hash=b.hash:=by
 cases a;cases b;simp
instance:DecidableEq Nod:=fun a b=>decidable_of_iff _ (Nod.eq_iff a b).symm
def af2:Nod:=⟨0,0,[],[],[]⟩
def ats (t:List Nod)(x:Nat):Nod:=t.getD x af2
def lvs (t:List Nod):Nat:=(t.length+1) / 2
def mayP (name:Int)(pub:List UInt8):Prop:=0≤name∧name≤65535∧pub.length=32
instance (name:Int) (pub:List UInt8):Decidable (mayP name pub):=by unfold mayP;infer_instance
def afx (t:List Nod)(i:Int):Prop:=0≤i∧i<lvs t∧(ats t (2*i.toNat)).kind=1
instance (t:List Nod) (i:Int):Decidable (afx t i):=by unfold afx;infer_instance
def af3 (t:List Nod)(f:Nat):Prop:=∀ i,f≤i→i<lvs t→(ats t (2*i)).kind=0
instance (t:List Nod) (f:Nat):Decidable (af3 t f):=
 decidable_of_iff (∀ i,i<lvs t→f≤i→(ats t (2*i)).kind=0) ⟨fun h i h1 h2=>h i h2 h1,fun h i h1 h2=>h i h2 h1⟩
end Go.Proofs.Ytbhkdlpdolioaaa
