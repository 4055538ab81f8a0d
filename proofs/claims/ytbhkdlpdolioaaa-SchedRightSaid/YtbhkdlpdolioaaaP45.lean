import Derived.Test.YtbhkdlpdolioaaaP19
import Derived.Test.YtbhkdlpdolioaaaP36
import Derived.Test.YtbhkdlpdolioaaaP40
import Derived.Test.YtbhkdlpdolioaaaP41
import Derived.Test.YtbhkdlpdolioaaaP42
import Derived.Test.YtbhkdlpdolioaaaP43
import Derived.Test.YtbhkdlpdolioaaaP44
set_option linter.unusedVariables false
set_option linter.unusedSimpArgs false
set_option maxHeartbeats 8000000
set_option maxRecDepth 100000
namespace Go.Proofs.Ytbhkdlpdolioaaa
open Go.RowKit
theorem adt (vk:Value)(s:ByteArray)(k:List UInt8)(w:World)(hk:Rd w vk k)(hs:s.size≤300)(hkl:k.length≤2000):
  Calls Try.prog 33 #[vk,.string s] w fun e w'=>(∃ af9,e=.returned af9∧Rd w' af9 (oneS k s [])∧aaC w.heap.size af9)∧Kp w w':=by
 have HL:=Lib.hid (ac0 vk s k w hk hs hkl);have HM:Hid (expL k (labI s.data.toList [] 32) 32=oneS k s []):=rfl;rw[HM.out] at HL;obtain ⟨a1,n1,c1,rfl⟩:=hk.sl;clear hk;go_enter Try.func33,Try.ntmps33;go_wp2_with fail;refine HL.out.mono ?_;rintro _ w1 ⟨⟨af9,rfl,o1,n1⟩,k1⟩;go_wp2_with fail;go_ret;exact ⟨⟨_,rfl,o1,n1⟩,k1⟩
theorem adI (v0 v1 v2 v3 v4:Value)(E:Eps)(w:World)(h:EV w v0 v1 v2 v3 v4 E)(h0:E.i.length=32)(h1:E.s.length=32)(h2:E.x.length=32)(h3:E.c.length=32)(h4:E.r.length=32):
  Calls Try.prog 32 #[.agg #[v0,v1,v2,v3,v4]] w fun e w'=>e=.returned (.bool true)∧Kp w w':=by
 obtain ⟨a0,c0,rfl,_,_⟩:=h.1.shape;obtain ⟨a1,c1,rfl,_,_⟩:=h.2.1.shape;obtain ⟨a2,c2,rfl,_,_⟩:=h.2.2.1.shape;obtain ⟨a3,c3,rfl,_,_⟩:=h.2.2.2.1.shape;obtain ⟨a4,c4,rfl,_,_⟩:=h.2.2.2.2.shape;rw[h0];rw[h1];rw[h2];rw[h3];rw[h4];clear h;go_enter Try.func32,Try.ntmps32;go_wp2_with fail;go_ret;exact ⟨rfl,(Kp.refl _).alloc _⟩
theorem adJ (v0 v1 v2 v3 v4:Value)(E:Eps)(w:World)(h:EV w v0 v1 v2 v3 v4 E)(h0:E.i.length=32)(h1:E.s.length=32)(h2:E.x.length=32)(h3:E.c.length=32)(h4:¬E.r.length=32):
  Calls Try.prog 32 #[.agg #[v0,v1,v2,v3,v4]] w fun e w'=>e=.returned (.bool false)∧Kp w w':=by
 obtain ⟨a0,c0,rfl,_,_⟩:=h.1.shape;obtain ⟨a1,c1,rfl,_,_⟩:=h.2.1.shape;obtain ⟨a2,c2,rfl,_,_⟩:=h.2.2.1.shape;obtain ⟨a3,c3,rfl,_,_⟩:=h.2.2.2.1.shape;obtain ⟨a4,c4,rfl,_,_⟩:=h.2.2.2.2.shape;rw[h0];rw[h1];rw[h2];rw[h3];have d4:((E.r.length:Int)==32)=false:=beq_eq_false_iff_ne.2 (by omega);clear h;go_enter Try.func32,Try.ntmps32;go_wp2_with fail;go_ret;exact ⟨rfl,(Kp.refl _).alloc _⟩
theorem adK (v0 v1 v2 v3 v4:Value)(E:Eps)(w:World)(h:EV w v0 v1 v2 v3 v4 E)(h0:E.i.length=32)(h1:E.s.length=32)(h2:E.x.length=32)(h3:¬E.c.length=32):
  Calls Try.prog 32 #[.agg #[v0,v1,v2,v3,v4]] w fun e w'=>e=.returned (.bool false)∧Kp w w':=by
 obtain ⟨a0,c0,rfl,_,_⟩:=h.1.shape;obtain ⟨a1,c1,rfl,_,_⟩:=h.2.1.shape;obtain ⟨a2,c2,rfl,_,_⟩:=h.2.2.1.shape;obtain ⟨a3,c3,rfl,_,_⟩:=h.2.2.2.1.shape;obtain ⟨a4,c4,rfl,_,_⟩:=h.2.2.2.2.shape;rw[h0];rw[h1];rw[h2];have d3:((E.c.length:Int)==32)=false:=beq_eq_false_iff_ne.2 (by omega);clear h;go_enter Try.func32,Try.ntmps32;go_wp2_with fail;go_ret;exact ⟨rfl,(Kp.refl _).alloc _⟩
theorem adL (v0 v1 v2 v3 v4:Value)(E:Eps)(w:World)(h:EV w v0 v1 v2 v3 v4 E)(h0:E.i.length=32)(h1:E.s.length=32)(h2:¬E.x.length=32):
  Calls Try.prog 32 #[.agg #[v0,v1,v2,v3,v4]] w fun e w'=>e=.returned (.bool false)∧Kp w w':=by
 obtain ⟨a0,c0,rfl,_,_⟩:=h.1.shape;obtain ⟨a1,c1,rfl,_,_⟩:=h.2.1.shape;obtain ⟨a2,c2,rfl,_,_⟩:=h.2.2.1.shape;obtain ⟨a3,c3,rfl,_,_⟩:=h.2.2.2.1.shape;obtain ⟨a4,c4,rfl,_,_⟩:=h.2.2.2.2.shape;rw[h0];rw[h1];have d2:((E.x.length:Int)==32)=false:=beq_eq_false_iff_ne.2 (by omega);clear h;go_enter Try.func32,Try.ntmps32;go_wp2_with fail;go_ret;exact ⟨rfl,(Kp.refl _).alloc _⟩
theorem adM (v0 v1 v2 v3 v4:Value)(E:Eps)(w:World)(h:EV w v0 v1 v2 v3 v4 E)(h0:E.i.length=32)(h1:¬E.s.length=32):
  Calls Try.prog 32 #[.agg #[v0,v1,v2,v3,v4]] w fun e w'=>e=.returned (.bool false)∧Kp w w':=by
 obtain ⟨a0,c0,rfl,_,_⟩:=h.1.shape;obtain ⟨a1,c1,rfl,_,_⟩:=h.2.1.shape;obtain ⟨a2,c2,rfl,_,_⟩:=h.2.2.1.shape;obtain ⟨a3,c3,rfl,_,_⟩:=h.2.2.2.1.shape;obtain ⟨a4,c4,rfl,_,_⟩:=h.2.2.2.2.shape;rw[h0];have d1:((E.s.length:Int)==32)=false:=beq_eq_false_iff_ne.2 (by omega);clear h;go_enter Try.func32,Try.ntmps32;go_wp2_with fail;go_ret;exact ⟨rfl,(Kp.refl _).alloc _⟩
theorem adN (v0 v1 v2 v3 v4:Value)(E:Eps)(w:World)(h:EV w v0 v1 v2 v3 v4 E)  (h0:¬E.i.length=32):
  Calls Try.prog 32 #[.agg #[v0,v1,v2,v3,v4]] w fun e w'=>e=.returned (.bool false)∧Kp w w':=by
 obtain ⟨a0,c0,rfl,_,_⟩:=h.1.shape;obtain ⟨a1,c1,rfl,_,_⟩:=h.2.1.shape;obtain ⟨a2,c2,rfl,_,_⟩:=h.2.2.1.shape;obtain ⟨a3,c3,rfl,_,_⟩:=h.2.2.2.1.shape;obtain ⟨a4,c4,rfl,_,_⟩:=h.2.2.2.2.shape;have d0:((E.i.length:Int)==32)=false:=beq_eq_false_iff_ne.2 (by omega);clear h;go_enter Try.func32,Try.ntmps32;go_wp2_with fail;go_ret;exact ⟨rfl,(Kp.refl _).alloc _⟩
theorem acv (v0 v1 v2 v3 v4:Value)(E:Eps)(w:World)(h:EV w v0 v1 v2 v3 v4 E):
  Calls Try.prog 32 #[.agg #[v0,v1,v2,v3,v4]] w fun e w'=>e=.returned (.bool (decide E.ok))∧Kp w w':=by
 by_cases h0:E.i.length=32
 ·by_cases h1:E.s.length=32
  ·by_cases h2:E.x.length=32
   ·by_cases h3:E.c.length=32
    ·by_cases h4:E.r.length=32
     ·rw[decide_eq_true (show E.ok from ⟨h0,h1,h2,h3,h4⟩)]
      exact adI v0 v1 v2 v3 v4 E w h h0 h1 h2 h3 h4
     ·rw[decide_eq_false fun q:E.ok=>h4 q.2.2.2.2]
      exact adJ v0 v1 v2 v3 v4 E w h h0 h1 h2 h3 (by omega)
    ·rw[decide_eq_false fun q:E.ok=>h3 q.2.2.2.1]
     exact adK v0 v1 v2 v3 v4 E w h h0 h1 h2 (by omega)
   ·rw[decide_eq_false fun q:E.ok=>h2 q.2.2.1]
    exact adL v0 v1 v2 v3 v4 E w h h0 h1 (by omega)
  ·rw[decide_eq_false fun q:E.ok=>h1 q.2.1]
   exact adM v0 v1 v2 v3 v4 E w h h0 (by omega)
 ·rw[decide_eq_false fun q:E.ok=>h0 q.1]
  exact adN v0 v1 v2 v3 v4 E w h  (by omega)
set_option maxHeartbeats 2000000
theorem Bx.five {w:World}{b:Nat}{T:TypeId}{v0 v1 v2 v3 v4:Value}(h:Bx w b T #[v0,v1,v2,v3,v4]):w.cell? ⟨b,0,none⟩=some v0∧w.cell? ⟨b,1,none⟩=some v1∧w.cell? ⟨b,2,none⟩=some v2∧w.cell? ⟨b,3,none⟩=some v3∧w.cell? ⟨b,4,none⟩=some v4:=
 ⟨h.cell 0,h.cell 1,h.cell 2,h.cell 3,h.cell 4⟩
theorem Bx.nil5 (w:World)(T:TypeId):Bx (w.alloc (.cells #[.slice none 0 0,.slice none 0 0,.slice none 0 0,.slice none 0 0,.slice none 0 0] T)) w.heap.size T #[.slice none 0 0,.slice none 0 0,.slice none 0 0,.slice none 0 0,.slice none 0 0]:=Bx.new w _ _
theorem ael {ls:List (List UInt8)}(h:abg ls≤300):∀ k,k<ls.length→(ls.getD k []).length≤2000:=fun k hk=>by
 have h1:abg (ls.take (k+1))≤abg ls:=by unfold abg;have:=aeH ls (k+1);rw[List.length_take];omega
 have h2:=acq ls k hk;omega
end Go.Proofs.Ytbhkdlpdolioaaa
