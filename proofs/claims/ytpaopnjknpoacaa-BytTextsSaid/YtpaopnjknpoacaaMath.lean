/- What is put is taken: plain facts on bytes. Nothing of a dump. -/
import Derived.Test.YtpaopnjknpoacaaPlain
namespace Go.Proofs.Ytpaopnjknpoacaa

theorem drop_len {b l more : List UInt8} {p : Nat} (hd : b.drop p = l ++ more) (hl : l ≠ []) : p + l.length + more.length = b.length := by
  have h := congrArg List.length hd
  rw [List.length_drop, List.length_append] at h
  have : 0 < l.length := List.length_pos_iff.2 hl
  omega
theorem drop_take {b l more : List UInt8} {p : Nat} (hd : b.drop p = l ++ more) : (b.drop p).take l.length = l := by
  rw [hd, List.take_append_of_le_length (Nat.le_refl _), List.take_length]
theorem drop_head {b more t : List UInt8} {c : UInt8} {p : Nat} (hd : b.drop p = (c :: t) ++ more) : b.getD p 0 = c := by
  have h := congrArg (fun l => l.getD 0 0) hd
  simp only [List.cons_append, List.getD_cons_zero, List.getD_eq_getElem?_getD, List.getElem?_drop, Nat.add_zero] at h
  rw [List.getD_eq_getElem?_getD]
  exact h

theorem tn_at {b more : List UInt8} {p k n : Nat} (hk : 1 ≤ k) (hk7 : k ≤ 7) (hn : n < 256 ^ k) (hd : b.drop p = be k n ++ more) :
    tnN b p k = n ∧ tnP b p k = p + k ∧ tnE b p k = 0 := by
  have hl : (be k n).length = k := be_length k n
  have hne : be k n ≠ [] := by intro h; rw [h] at hl; simp at hl; omega
  have hlen := drop_len hd hne
  rw [hl] at hlen
  have ht := drop_take hd
  rw [hl] at ht
  obtain ⟨e1, e2, e3⟩ := tn_yes (b := b) (at' := p) (w := k) (by omega) (by omega)
  rw [e1, e2, e3, Int.toNat_natCast, Int.toNat_natCast, ht, val_be k n hn]
  exact ⟨rfl, rfl, rfl⟩

theorem lenBytes_length (n : Nat) : (lenBytes n).length = if n < 64 then 1 else if n < 16384 then 2 else 4 := by
  unfold lenBytes
  split
  · exact be_length _ _
  · split <;> exact be_length _ _
theorem lenBytes_pos (n : Nat) : 1 ≤ (lenBytes n).length := by rw [lenBytes_length]; split <;> (try split) <;> omega

theorem tl_at {b more : List UInt8} {p n : Nat} (hn : n ≤ 1073741823) (hd : b.drop p = lenBytes n ++ more) :
    tlN b p = n ∧ tlP b p = p + (lenBytes n).length ∧ tlE b p = 0 := by
  have hL := lenBytes_length n
  have hne : lenBytes n ≠ [] := by intro h; have := lenBytes_pos n; rw [h] at this; simp at this
  have hlen := drop_len hd hne
  have hp : p < b.length := by have := lenBytes_pos n; omega
  by_cases h1 : n < 64
  · have e : lenBytes n = be 1 n := by simp only [lenBytes, if_pos h1]
    rw [if_pos h1] at hL
    rw [e, be_cons] at hd
    have hh := drop_head hd
    have hc : (b.getD p 0).toNat = n := by rw [hh]; simp; omega
    obtain ⟨e1, e2, e3⟩ := tl_one hp (by omega)
    rw [e1, e2, e3, hL, hc]
    exact ⟨rfl, rfl, rfl⟩
  · by_cases h2 : n < 16384
    · have e : lenBytes n = be 2 (n + 16384) := by simp only [lenBytes, if_neg h1, if_pos h2]
      rw [if_neg h1, if_pos h2] at hL
      have ht := drop_take hd
      rw [hL, e] at ht
      rw [e, be_cons] at hd
      have hh := drop_head hd
      have hc : (b.getD p 0).toNat = (n + 16384) / 256 := by rw [hh]; simp; omega
      have hv : val ((b.drop p).take 2) = n + 16384 := by rw [ht]; exact val_be 2 _ (by omega)
      obtain ⟨e1, e2, e3⟩ := (tl_two hp (by omega) (by omega) (by omega)).2 (by omega)
      rw [e1, e2, e3, hL, hv]
      exact ⟨by omega, rfl, rfl⟩
    · have e : lenBytes n = be 4 (n + 2147483648) := by simp only [lenBytes, if_neg h1, if_neg h2]
      rw [if_neg h1, if_neg h2] at hL
      have ht := drop_take hd
      rw [hL, e] at ht
      rw [e, be_cons] at hd
      have hh := drop_head hd
      have hc : (b.getD p 0).toNat = (n + 2147483648) / 16777216 := by rw [hh]; simp; omega
      have hv : val ((b.drop p).take 4) = n + 2147483648 := by rw [ht]; exact val_be 4 _ (by omega)
      obtain ⟨e1, e2, e3⟩ := (tl_four hp (by omega) (by omega) (by omega)).2 (by omega)
      rw [e1, e2, e3, hL, hv]
      exact ⟨by omega, rfl, rfl⟩

theorem row_ok {x : List UInt8} (h : x.length ≤ 1073741823) : rowE x = 0 ∧ rowB x = lenBytes x.length ++ x := by
  have e : rowE x = 0 := if_neg (by omega)
  simp [rowB, e]
theorem row_len {x : List UInt8} (h : x.length ≤ 1073741823) : (rowB x).length = (lenBytes x.length).length + x.length := by rw [(row_ok h).2, List.length_append]

theorem tr_at {b x more : List UInt8} {p : Nat} {most : Int} (hx : x.length ≤ 1073741823) (hm : (x.length : Int) ≤ most) (hd : b.drop p = rowB x ++ more) :
    trB b p most = x ∧ trP b p most = p + (rowB x).length ∧ trE b p most = 0 := by
  have hr := row_len hx
  rw [(row_ok hx).2, List.append_assoc] at hd
  obtain ⟨e1, e2, e3⟩ := tl_at hx hd
  have hne : lenBytes x.length ≠ [] := by intro h; have := lenBytes_pos x.length; rw [h] at this; simp at this
  have hlen := drop_len hd hne
  rw [List.length_append] at hlen
  obtain ⟨f1, f2, f3⟩ := tr_yes (l := b) (at' := p) (most := most) e3 (by omega) (by omega)
  rw [f1, f2, f3, e1, e2]
  refine ⟨?_, by omega, rfl⟩
  rw [show ((p : Int) + (lenBytes x.length).length).toNat = p + (lenBytes x.length).length from by omega, Int.toNat_natCast, ← List.drop_drop, hd, List.drop_append_of_le_length (Nat.le_refl _), List.drop_length, List.nil_append,
    List.take_append_of_le_length (Nat.le_refl _), List.take_length]

theorem to_at {b more : List UInt8} {is : Bool} {x : List UInt8} (hd : b = optB is x ++ more) : toV b 0 = is ∧ toP b 0 = 1 ∧ toE b 0 = 0 := by
  have hc : ∃ t, b = (if is then 1 else 0) :: t := by
    rw [hd]
    cases is
    · exact ⟨_, rfl⟩
    · exact ⟨_, rfl⟩
  obtain ⟨t, rfl⟩ := hc
  have e : toE ((if is then 1 else 0) :: t) 0 = 0 := by
    unfold toE
    rw [if_neg (by simp only [List.length_cons]; omega), if_neg (by simp only [List.length_cons]; omega)]
    cases is <;> simp
  refine ⟨?_, by simp [toP, e], e⟩
  unfold toV
  rw [e]
  cases is <;> simp

/-- Of two lengths neither one's bytes are the beginning of the other's. -/
theorem len_begins {m n : Nat} (hm : m ≤ 1073741823) (hn : n ≤ 1073741823) (h : ∃ t, lenBytes m = lenBytes n ++ t) : m = n := by
  obtain ⟨t, ht⟩ := h
  have h1 := (tl_at (b := lenBytes m) (p := 0) (more := []) hm (by simp)).1
  have h2 := (tl_at (b := lenBytes m) (p := 0) (more := t) hn (by simpa using ht)).1
  rw [h1] at h2
  exact_mod_cast h2
theorem row_begins {x y : List UInt8} (hx : x.length ≤ 1073741823) (hy : y.length ≤ 1073741823) (h : ∃ t, rowB x = rowB y ++ t) : x = y := by
  obtain ⟨t, ht⟩ := h
  have h1 := (tr_at (b := rowB x) (p := 0) (more := []) (most := 1073741823) hx (by omega) (by simp)).1
  have h2 := (tr_at (b := rowB x) (p := 0) (more := t) (most := 1073741823) hy (by omega) (by simpa using ht)).1
  rw [h1] at h2
  exact h2
theorem lenBytes_mono {m n : Nat} (h : m ≤ n) : (lenBytes m).length ≤ (lenBytes n).length := by
  rw [lenBytes_length, lenBytes_length]
  split <;> split <;> (try split) <;> (try split) <;> omega
end Go.Proofs.Ytpaopnjknpoacaa
