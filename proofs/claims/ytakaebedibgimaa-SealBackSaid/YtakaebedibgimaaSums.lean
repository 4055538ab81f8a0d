/- Sums and texts, as later layers want them: sum_at, sum_32, refText_at, same_at. -/
import Derived.Test.YtakaebedibgimaaSum
import Derived.Test.YtakaebedibgimaaText
set_option linter.unusedVariables false
set_option linter.unusedSimpArgs false
namespace Go.Proofs.Ytakaebedibgimaa
open Go.RowKit

theorem sum_at (v : Value) (l m : List UInt8) (w : World) (h : Rd w v l) (hl : l.length ≤ 2000) (hm : digest l = m) :
    Calls Try.prog 80 #[v] w fun e w' => (∃ v', e = .returned v' ∧ Rd w' v' m) ∧ Kp w w' := by
  have := sum_any v l w h hl
  rw [hm] at this
  exact this
theorem rd_nil (w : World) : Rd w (.slice none 0 0) [] := ⟨none, 0, rfl, Nat.le_refl _, Nat.zero_le _, fun _ => rfl, fun x hx => by cases hx⟩

theorem rd_marked (w : World) (T : TypeId) : Rd (w.alloc (.cells #[.int .u8 97, .int .u8 98, .int .u8 99] T (3, 4))) (.slice (some ⟨w.heap.size, 0, none⟩) 3 3) [97, 98, 99] := by
  refine ⟨_, 3, rfl, Nat.le_refl _, by unfold maxLen; omega, fun h => (by cases h), fun x hx i hi => ?_⟩
  cases hx
  have hg := heap_alloc_new w (.cells #[.int .u8 97, .int .u8 98, .int .u8 99] T (3, 4))
  have e : (⟨w.heap.size, 0, none⟩ : Addr).add i = ⟨w.heap.size, i, none⟩ := by unfold Addr.add; split <;> simp_all
  rw [e, cell_of_row _ _ i _ _ _ hg]
  match i, hi with
  | 0, _ => rfl
  | 1, _ => rfl
  | 2, _ => rfl

theorem digest_length (l : List UInt8) : (digest l).length = 32 := bytes_length _
theorem same_at (u v : Value) (l m : List UInt8) (b : Bool) (w : World) (h : Rd w u l) (h' : Rd w v m) (hb : decide (l = m) = b) :
    Calls Try.prog 13 #[u, v] w fun e w' => e = .returned (.bool b) ∧ w = w' := by
  have := same_any u v l m w h h'
  rw [hb] at this
  exact this
/-- A sum, its length known. -/
theorem sum_32 (v : Value) (l : List UInt8) (w : World) (h : Rd w v l) (hl : l.length ≤ 2000) :
    Calls Try.prog 80 #[v] w fun e w' => (∃ a c, e = .returned (.slice a 32 c) ∧ Rd w' (.slice a 32 c) (digest l)) ∧ Kp w w' := by
  refine (sum_any v l w h hl).mono ?_
  rintro e w' ⟨⟨v', rfl, hr⟩, hk⟩
  obtain ⟨a, c, rfl, _, _⟩ := hr.shape
  rw [digest_length] at hr ⊢
  exact ⟨⟨a, c, rfl, hr⟩, hk⟩

/-- A sum, in memory of its own. -/
theorem sum_32o (v : Value) (l : List UInt8) (w : World) (h : Rd w v l) (hl : l.length ≤ 2000) :
    Calls Try.prog 80 #[v] w fun e w' => (∃ a c, e = .returned (.slice a 32 c) ∧ Ow 5 w' w.heap.size (.slice a 32 c) (digest l)) ∧ Kp w w' := by
  refine (sum_own v l w h hl).mono ?_
  rintro e w' ⟨⟨v', rfl, hr⟩, hk⟩
  obtain ⟨a, c, rfl, _, _⟩ := hr.rd.shape
  rw [digest_length] at hr ⊢
  exact ⟨⟨a, c, rfl, hr⟩, hk⟩
end Go.Proofs.Ytakaebedibgimaa
