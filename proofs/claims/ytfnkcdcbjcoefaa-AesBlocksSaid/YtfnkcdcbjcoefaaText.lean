/- pyxref01.Text: texts of bytes, the document's own. -/
import Derived.Test.YtfnkcdcbjcoefaaSame
import Derived.Test.YtfnkcdcbjcoefaaBase2
import Derived.Deep.QuietTactic
import Derived.BigQuiet
set_option linter.unusedVariables false
set_option linter.unusedSimpArgs false
namespace Go.Proofs.Ytfnkcdcbjcoefaa
open Go.RowKit

/-- A figure's sign. -/
def hexB (n : Nat) : UInt8 := if n < 10 then UInt8.ofNat (48 + n) else UInt8.ofNat (87 + n)
/-- The text of bytes. -/
def textB (x : List UInt8) : List UInt8 := x.flatMap fun b => [hexB (b.toNat / 16), hexB (b.toNat % 16)]
theorem textB_length (x : List UInt8) : (textB x).length = 2 * x.length := by
  induction x with
  | nil => rfl
  | cons b x ih => simp only [textB, List.flatMap_cons, List.length_append, List.length_cons, List.length_nil] at ih ⊢; omega
theorem textB_snoc (x : List UInt8) (b : UInt8) : textB (x ++ [b]) = textB x ++ [hexB (b.toNat / 16)] ++ [hexB (b.toNat % 16)] := by
  simp [textB, List.flatMap_append]

theorem fig_all : ∀ n : Fin 16, ((⟨#[48, 49, 50, 51, 52, 53, 54, 55, 56, 57, 97, 98, 99, 100, 101, 102]⟩ : ByteArray)[n.val]'(by have := n.isLt; exact this)) = hexB n.val := by decide
theorem fig (n : Nat) (h : n < 16) : ((⟨#[48, 49, 50, 51, 52, 53, 54, 55, 56, 57, 97, 98, 99, 100, 101, 102]⟩ : ByteArray)[n]'h) = hexB n := fig_all ⟨n, h⟩

theorem fig_cut : ∀ n : Fin 16, (⟨#[48, 49, 50, 51, 52, 53, 54, 55, 56, 57, 97, 98, 99, 100, 101, 102]⟩ : ByteArray).extract n.val (n.val + 1) = ⟨#[hexB n.val]⟩ := by decide

theorem figure_any (n : Nat) (w : World) (h : n < 16) :
    Calls Try.prog 36 #[.int .i64 n] w fun e w' => e = .returned (.string ⟨#[hexB n]⟩) ∧ w = w' := by
  have hf := fig_cut ⟨n, h⟩
  have hn : (n : Int) < 16 := by omega
  go_enter Try.func36, Try.ntmps36
  go_wp2
  go_ret
  exact ⟨by rw [← hf]; rfl, rfl⟩

theorem figure_int (x : Int) (w : World) (h0 : 0 ≤ x) (h : x < 16) :
    Calls Try.prog 36 #[.int .i64 x] w fun e w' => e = .returned (.string ⟨#[hexB x.toNat]⟩) ∧ w = w' := by
  obtain ⟨n, rfl⟩ := Int.eq_ofNat_of_zero_le h0
  exact figure_any n w (by omega)

set_option maxRecDepth 100000 in
set_option maxHeartbeats 800000 in
theorem refText_any (v : Value) (l : List UInt8) (w : World) (h : Rd w v l) (hl : l.length ≤ 1000000) :
    Calls Try.prog 23 #[v] w fun e w' => e = .returned (.string ⟨(textB l).toArray⟩) ∧ Kp w w' := by
  obtain ⟨a, c, rfl, hc, hm⟩ := h.shape
  unfold maxLen at hm
  go_enter Try.func23, Try.ntmps23
  go_wp2_with fail
  go_loopw [3, 4] (fun s i wr => ∃ k : Nat, k ≤ l.length ∧ i = .int .i64 k ∧ s = .string ⟨(textB (l.take k)).toArray⟩ ∧ Kp w wr) (fun _ i _ => l.length - (intOf i).toNat)
  case atStart => exact ⟨0, Nat.zero_le _, rfl, rfl, Kp.refl _⟩
  case round =>
    obtain ⟨k, hk, rfl, rfl, hkp⟩ := hrel
    by_cases hlt : k < l.length
    · obtain ⟨b, off, rfl, hbB, hcell⟩ := h.at k hlt
      have hc0 := hkp.cell (hcell k hlt)
      obtain ⟨y, hy⟩ : ∃ y : Nat, y = (l.getD k 0).toNat := ⟨_, rfl⟩
      have hy2 : (y : Int) < 256 := by have := (l.getD k 0).toNat_lt; omega
      rw [← hy] at hc0
      have h16 : y / 16 < 16 := by omega
      have hm16 : y % 16 < 16 := by omega
      obtain ⟨t, ht⟩ : ∃ t : ByteArray, t = ⟨(textB (l.take k)).toArray⟩ := ⟨_, rfl⟩
      have hts : (⟨(textB (l.take (k + 1))).toArray⟩ : ByteArray) = t ++ ⟨#[hexB (y / 16)]⟩ ++ ⟨#[hexB (y % 16)]⟩ := by
        rw [snoc_take l k hlt, textB_snoc, ← hy, ht]
        apply ByteArray.ext
        simp [ByteArray.data_append]
      have hlen1 : (t.size : Int) ≤ 2000000 := by
        have : t.size = (textB (l.take k)).length := by rw [ht]; simp [ByteArray.size]
        rw [this, textB_length]; simp; omega
      rw [← ht]
      have HT := Lib.hid hts
      clear hcell hts hy ht
      go_wp2_with fail
      have q1 : (0 : Int) ≤ (y : Int) / 16 := by omega
      have q2 : (y : Int) / 16 < 16 := by omega
      have q3 : (0 : Int) ≤ (y : Int) % 16 := by omega
      have q4 : (y : Int) % 16 < 16 := by omega
      go_quiet ((go_at_call 36; exact quiet_left (figure_int _ _ (by assumption) (by assumption))))
      go_wp2_with fail
      go_roundw
      case rel => exact ⟨k + 1, by omega, by go_num, by rw [HT.out], hkp.drewN _⟩
      case measure => simp [intOf]; omega
    · have hkl : l.take k = l := List.take_of_length_le (by omega)
      rw [hkl]
      go_wp2_with fail
      go_ret
      exact ⟨rfl, hkp⟩
end Go.Proofs.Ytfnkcdcbjcoefaa
