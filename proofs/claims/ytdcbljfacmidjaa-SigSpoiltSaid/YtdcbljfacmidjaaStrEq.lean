/- Strings that are the same. Nothing of a dump. -/
import Derived.Test.YtdcbljfacmidjaaBase
set_option linter.unusedVariables false
set_option linter.unusedSimpArgs false
namespace Go.Proofs.Ytdcbljfacmidjaa
open Go.RowKit

theorem bytes_ext7 {a b : ByteArray} (h : a.data.toList = b.data.toList) : a = b := by
  cases a; cases b
  simp only [ByteArray.mk.injEq]
  exact Array.ext' h
theorem toList_dat7 (s : ByteArray) : s.toList = s.data.toList := by
  have h : ∀ n (s : ByteArray) i r, s.size - i = n → ByteArray.toList.loop s i r = r.reverse ++ s.data.toList.drop i := by
    intro n
    induction n with
    | zero =>
      intro s i r h
      unfold ByteArray.toList.loop
      rw [if_neg (by omega), List.drop_eq_nil_of_le (by rw [Array.length_toList]; show s.size ≤ i; omega), List.append_nil]
    | succ n ih =>
      intro s i r h
      unfold ByteArray.toList.loop
      rw [if_pos (by omega), ih s (i + 1) _ (by omega)]
      have hi : i < s.data.toList.length := by rw [Array.length_toList]; show i < s.size; omega
      rw [List.drop_eq_getElem_cons hi, List.reverse_cons, List.append_assoc]
      congr 2
      have : i < s.size := by omega
      simp [ByteArray.get!, getElem!_pos, this]
  exact (h _ s 0 [] rfl).trans (by simp)
end Go.Proofs.Ytdcbljfacmidjaa
