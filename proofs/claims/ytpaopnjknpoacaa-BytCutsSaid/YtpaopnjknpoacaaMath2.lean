/- Cut off, beyond, and the beginning of: plain facts on bytes. Nothing of a dump. -/
import Derived.Test.YtpaopnjknpoacaaMath
namespace Go.Proofs.Ytpaopnjknpoacaa

theorem tlE_arg (b : List UInt8) (at' : Int) : tlE b at' = 1 ↔ (at' < 0 ∨ (b.length : Int) < at') := by
  constructor
  · intro h
    by_cases h1 : at' < 0 ∨ (b.length : Int) < at'
    · exact h1
    · exfalso
      obtain ⟨p, rfl⟩ := Int.eq_ofNat_of_zero_le (show 0 ≤ at' by omega)
      by_cases h2 : p = b.length
      · subst h2; rw [tl_end.2.2] at h; simp at h
      · rw [tlE_in (by omega)] at h
        split at h
        · simp at h
        · split at h
          · simp at h
          · split at h <;> simp at h
  · exact fun h => (tl_arg h).2.2
theorem toE_arg (b : List UInt8) (at' : Int) : toE b at' = 1 ↔ (at' < 0 ∨ (b.length : Int) < at') := by
  unfold toE
  constructor
  · intro h
    split at h
    · assumption
    · split at h
      · simp at h
      · split at h <;> simp at h
  · intro h; rw [if_pos h]

/-- A row longer than asked for. -/
theorem tr_big_row {x more : List UInt8} {most : Int} (hx : x.length ≤ 1073741823) (hm : most < x.length) : trE (rowB x ++ more) 0 most = 4 := by
  have hd : (rowB x ++ more).drop 0 = lenBytes x.length ++ (x ++ more) := by rw [(row_ok hx).2, List.drop_zero, List.append_assoc]
  obtain ⟨e1, e2, e3⟩ := tl_at (p := 0) hx hd
  exact (tr_big (at' := ((0 : Nat) : Int)) e3 (by omega)).1

theorem lenBytes_cut {n j : Nat} (hn : n ≤ 1073741823) (hj : j < (lenBytes n).length) : tlE ((lenBytes n).take j) 0 = 3 := by
  have hL := lenBytes_length n
  have hlen : ((lenBytes n).take j).length = j := by rw [List.length_take]; omega
  by_cases h0 : j = 0
  · subst h0
    rw [List.take_zero]
    exact (tl_end (b := [])).2.2
  · have hp : 0 < ((lenBytes n).take j).length := by omega
    have hh : ∀ c t, lenBytes n = c :: t → ((lenBytes n).take j).getD 0 0 = c := by
      intro c t h
      rw [h]
      cases j with
      | zero => omega
      | succ j => simp
    by_cases h1 : n < 64
    · rw [if_pos h1] at hL; omega
    · by_cases h2 : n < 16384
      · have e : lenBytes n = be 2 (n + 16384) := by simp only [lenBytes, if_neg h1, if_pos h2]
        rw [if_neg h1, if_pos h2] at hL
        have hc := hh _ _ (e.trans (be_cons 1 _))
        have hcn : (((lenBytes n).take j).getD 0 0).toNat = (n + 16384) / 256 := by rw [hc]; simp; omega
        exact (tl_short (p := 0) hp (by omega) (by rw [width_two (by omega) (by omega)]; omega)).2.2
      · have e : lenBytes n = be 4 (n + 2147483648) := by simp only [lenBytes, if_neg h1, if_neg h2]
        rw [if_neg h1, if_neg h2] at hL
        have hc := hh _ _ (e.trans (be_cons 3 _))
        have hcn : (((lenBytes n).take j).getD 0 0).toNat = (n + 2147483648) / 16777216 := by rw [hc]; simp; omega
        exact (tl_short (p := 0) hp (by omega) (by rw [width_four (by omega)]; omega)).2.2
theorem row_cut {x : List UInt8} {j : Nat} {most : Int} (hx : x.length ≤ 1073741823) (hm : (x.length : Int) ≤ most) (hj : j < (rowB x).length) : trE ((rowB x).take j) 0 most = 3 := by
  rw [row_len hx] at hj
  rw [(row_ok hx).2]
  by_cases h : j < (lenBytes x.length).length
  · have e := lenBytes_cut hx h
    have ht : (lenBytes x.length ++ x).take j = (lenBytes x.length).take j := by rw [List.take_append_of_le_length (by omega)]
    rw [ht, (tr_bad (most := most) (by rw [e]; decide)).1, e]
  · have hd : ((lenBytes x.length ++ x).take j).drop 0 = lenBytes x.length ++ x.take (j - (lenBytes x.length).length) := by
      rw [List.drop_zero, List.take_append, List.take_of_length_le (by omega)]
    obtain ⟨e1, e2, e3⟩ := tl_at (p := 0) hx hd
    have hlen : ((lenBytes x.length ++ x).take j).length = j := by rw [List.length_take, List.length_append]; omega
    exact (tr_short (at' := ((0 : Nat) : Int)) e3 (by omega) (by rw [hlen, e1, e2]; omega)).1
theorem num_cut {n k j : Nat} (hk : 1 ≤ k) (hk7 : k ≤ 7) (hj : j < k) : tnE ((be k n).take j) 0 k = 3 := by
  have hlen : ((be k n).take j).length = j := by rw [List.length_take, be_length]; omega
  exact (tn_short (by omega) (by rw [hlen]; omega)).1

/-- Does a row begin with another one? -/
def beginsB (l m : List UInt8) : Bool := decide (m.length ≤ l.length) && decide (l.take m.length = m)
theorem beginsB_iff (l m : List UInt8) : beginsB l m = true ↔ ∃ t, l = m ++ t := by
  unfold beginsB
  simp only [Bool.and_eq_true, decide_eq_true_eq]
  constructor
  · intro ⟨_, h⟩
    exact ⟨l.drop m.length, by rw [← h, List.length_take, Nat.min_eq_left (by assumption)]; exact (List.take_append_drop _ _).symm⟩
  · intro ⟨t, h⟩
    subst h
    exact ⟨by rw [List.length_append]; omega, by rw [List.take_append_of_le_length (Nat.le_refl _), List.take_length]⟩
theorem row_beginsB {x y : List UInt8} (hx : x.length ≤ 1073741823) (hy : y.length ≤ 1073741823) : beginsB (rowB x) (rowB y) = decide (x = y) := by
  rw [Bool.eq_iff_iff, beginsB_iff, decide_eq_true_eq]
  exact ⟨row_begins hx hy, fun h => ⟨[], by rw [h, List.append_nil]⟩⟩
theorem len_beginsB {m n : Nat} (hm : m ≤ 1073741823) (hn : n ≤ 1073741823) : beginsB (lenBytes m) (lenBytes n) = decide (m = n) := by
  rw [Bool.eq_iff_iff, beginsB_iff, decide_eq_true_eq]
  exact ⟨len_begins hm hn, fun h => ⟨[], by rw [h, List.append_nil]⟩⟩
end Go.Proofs.Ytpaopnjknpoacaa
