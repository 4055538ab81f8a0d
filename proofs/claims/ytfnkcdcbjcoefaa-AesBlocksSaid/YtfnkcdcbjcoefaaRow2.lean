/- Rows taken, and what may lack. -/
import Derived.Test.YtfnkcdcbjcoefaaRow
set_option linter.unusedVariables false
set_option linter.unusedSimpArgs false
namespace Go.Proofs.Ytfnkcdcbjcoefaa
open Go.RowKit

set_option maxHeartbeats 400000 in
theorem clone_any (v : Value) (l : List UInt8) (w : World) (h : Rd w v l) (hl : l.length ≤ 1099511627776) :
    Calls Try.prog 25 #[v] w fun e w' => ∃ u, e = .returned u ∧ Ow 5 w' w.heap.size u l ∧ Kp w w' := by
  have U := u8
  have q : ∀ (w : World) (a : Option Addr) (n c n' c' : Nat), (binOp .eql 22 (.slice a n c) (.slice none n' c')).run Try.prog w = .ok (.bool a.isNone) w := fun w a n c n' c' => Lib.run_eql_slice_nil w _ _ a n c n' c' Try.underlying22
  obtain ⟨a, c, rfl, hc, hm, hnil, hcell⟩ := id h
  cases a with
  | none =>
    have hc0 := hnil rfl
    have hl0 : l = [] := List.eq_nil_of_length_eq_zero (by omega)
    subst hl0 hc0
    go_enter Try.func25, Try.ntmps25
    go_wp2_with fail
    go_ret
    exact ⟨_, rfl, Ow.nil _ _ _, Kp.refl _⟩
  | some a =>
    go_enter Try.func25, Try.ntmps25
    go_wp2_with (at_builtin; refine wpList_append_ow U rfl _ _ rfl w.heap.size _ [] rfl (Ow.lit w _ _ 0 #[] [] (Nat.le_refl _) rfl (by omega) rfl) _ l rfl (h.kp ((Kp.refl _).alloc _)) ?c1 ?c2 ?_; rotate_right; intro v' w2 ho2 hg _)
    case c1 => simp; omega
    case c2 => simp
    go_ret
    exact ⟨_, rfl, by simpa using ho2, Kp.grown (v := .slice (some ⟨w.heap.size, 0, none⟩) 0 0) ((Kp.refl _).alloc _) hg (by intro k hk; simp [Value.ownBlock] at hk; omega)⟩

def TR (l : List UInt8) (at' most : Int) (w : World) (e : Ending) (w' : World) : Prop :=
  ∃ u, e = .returned (.tuple #[u, .int .i64 (trP l at' most), .int .i64 (trE l at' most)]) ∧ Ow 5 w' w.heap.size u (trB l at' most) ∧ Kp w w'

end Go.Proofs.Ytfnkcdcbjcoefaa
