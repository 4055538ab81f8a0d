/- Behind Laid: each parent of the path is told by the node below it. Plain. -/
import Derived.Test.YtobldbodafaajaaDoorHashPl10
set_option linter.unusedVariables false
set_option linter.unusedSimpArgs false
namespace Go.Proofs.YtobldbodafaajaaDoor
open Go.RowKit

/-- The side of leaf j at a node. -/
def sdJ (j x : Nat) : Int := if x < 2 * j then 1 else 0
theorem sd_or (j x : Nat) : sdJ j x = 0 ∨ sdJ j x = 1 := by unfold sdJ; split; exact .inr rfl; exact .inl rfl
theorem oth_ne (i j : Nat) : othQ (sdJ j (nd (i + 1) (j / 2 ^ (i + 1)))) (j / 2 ^ (i + 1)) ≠ j / 2 ^ i := by
  have hq : j / 2 ^ (i + 1) = j / 2 ^ i / 2 := by rw [Nat.pow_succ, Nat.div_div_eq_div_mul]
  obtain ⟨r, hr⟩ : ∃ r, j / 2 ^ i = r := ⟨_, rfl⟩
  have hp := p2_pos i
  have h1 := Nat.div_mul_le_self j (2 ^ i)
  have h2 := Nat.lt_mul_div_succ j hp
  rw [hr] at h1 h2 hq
  rw [hq, hr]
  unfold sdJ othQ nd
  have e1 : 2 ^ (i + 1 + 1) = 4 * 2 ^ i := by rw [p2_succ, p2_succ]; omega
  have e2 : 2 ^ (i + 1) = 2 * 2 ^ i := p2_succ i
  rw [e1, e2]
  obtain ⟨P, hP⟩ : ∃ P, 2 ^ i = P := ⟨_, rfl⟩
  rw [hP] at h1 h2 hp ⊢
  obtain ⟨q, hqq⟩ : ∃ q, r / 2 = q := ⟨_, rfl⟩
  rw [hqq]
  rw [Nat.mul_comm r P] at h1
  rw [Nat.mul_add, Nat.mul_one] at h2
  rcases (show r = 2 * q ∨ r = 2 * q + 1 by omega) with e | e
  · rw [e] at h1 h2 ⊢
    have e3 : P * (2 * q) = 2 * (P * q) := by rw [Nat.mul_left_comm]
    have e4 : 4 * P * q = 4 * (P * q) := Nat.mul_assoc ..
    rw [e3] at h1 h2
    rw [e4]
    rw [if_neg (show ¬ (4 * (P * q) + 2 * P - 1 < 2 * j) by omega), if_pos rfl]
    omega
  · rw [e] at h1 h2 ⊢
    have e3 : P * (2 * q + 1) = 2 * (P * q) + P := by rw [Nat.mul_add, Nat.mul_one, Nat.mul_left_comm]
    have e4 : 4 * P * q = 4 * (P * q) := Nat.mul_assoc ..
    rw [e3] at h1 h2
    rw [e4]
    rw [if_pos (show 4 * (P * q) + 2 * P - 1 < 2 * j by omega), if_neg (by decide)]
    omega
/-- What stands above hangs on nothing further down the path. -/
theorem abo_out {T : List Nod} {K i i' j : Nat} (hK : K ≤ 10) (hi : i + 1 ≤ K) (hii : i' ≤ i) (hj : j < 2 ^ K) (hl : T.length = 2 ^ (K + 1) - 1) (n : Nod) :
    aboV (T.set (nd i' (j / 2 ^ i')) n) ((nd (i + 1) (j / 2 ^ (i + 1)) : Nat) : Int) (sdJ j (nd (i + 1) (j / 2 ^ (i + 1)))) = aboV T ((nd (i + 1) (j / 2 ^ (i + 1)) : Nat) : Int) (sdJ j (nd (i + 1) (j / 2 ^ (i + 1)))) := by
  have hq : ∀ k, k ≤ K → j / 2 ^ k < 2 ^ (K - k) := fun k hk => by
    have := quot_lt (K := K) (j := 0) (q := j) (i := k) (by simpa using hj) (by omega)
    simpa using this
  have hy : nd i' (j / 2 ^ i') < T.length := by rw [hl]; exact nd_lt (by omega) (hq i' (by omega))
  have hx : nd (i + 1) (j / 2 ^ (i + 1)) < T.length := by rw [hl]; exact nd_lt hi (hq (i + 1) hi)
  have hne : nd (i + 1) (j / 2 ^ (i + 1)) ≠ nd i' (j / 2 ^ i') := fun e => by have := (nd_inj e).1; omega
  have ha : ats (T.set (nd i' (j / 2 ^ i')) n) (nd (i + 1) (j / 2 ^ (i + 1))) = ats T (nd (i + 1) (j / 2 ^ (i + 1))) := by rw [ats_set _ _ _ _ hy, if_neg hne]
  have hs := sd_or j (nd (i + 1) (j / 2 ^ (i + 1)))
  have hoth := oth_ne i j
  obtain ⟨sd, hsd⟩ : ∃ sd, sdJ j (nd (i + 1) (j / 2 ^ (i + 1))) = sd := ⟨_, rfl⟩
  rw [hsd] at hs hoth ⊢
  have hE : aboE (T.set (nd i' (j / 2 ^ i')) n) ((nd (i + 1) (j / 2 ^ (i + 1)) : Nat) : Int) sd = aboE T ((nd (i + 1) (j / 2 ^ (i + 1)) : Nat) : Int) sd := by
    unfold aboE
    rw [List.length_set, Int.toNat_natCast, ha]
  unfold aboV
  rw [hE]
  split
  · rw [Int.toNat_natCast]
    unfold aboT
    rw [ha, lev_nd (i + 1) (j / 2 ^ (i + 1)) (by omega), qOf_nd (i + 1) (j / 2 ^ (i + 1)) (by omega), Nat.add_sub_cancel]
    rw [digF_out (ats T (nd (i + 1) (j / 2 ^ (i + 1)))).un (nd i' (j / 2 ^ i')) n (K := K) hy (show i ≤ K by omega) hK (fun i2 d e p hp he => by
      obtain ⟨e1, e2⟩ := nd_inj he
      subst e1
      refine hoth ?_
      rw [← hp, e2, Nat.div_div_eq_div_mul, ← Nat.pow_add, e])]
  · rfl
/-- The a-th node of a leaf's path, from the root down. -/
def rowJ (K j a : Nat) : Nat := nd (K - a) (j / 2 ^ (K - a))
/-- What the lowest parent among the first a nodes tells. -/
def toldJ (K j : Nat) (T : List Nod) : Nat → List UInt8
  | 0 => []
  | a + 1 => if (ats T (rowJ K j a)).kind = 2 then aboV T ((rowJ K j a : Nat) : Int) (sdJ j (rowJ K j a)) else toldJ K j T a
theorem rowJ_lt {K j a : Nat} (hj : j < 2 ^ K) : rowJ K j a < 2 ^ (K + 1) - 1 := by
  unfold rowJ
  have := quot_lt (K := K) (j := 0) (q := j) (i := K - a) (by simpa using hj) (by omega)
  exact nd_lt (by omega) (by simpa using this)
/-- A change further down changes nothing of that. -/
theorem told_out {T : List Nod} {K j i' : Nat} (hK : K ≤ 10) (hj : j < 2 ^ K) (hl : T.length = 2 ^ (K + 1) - 1) (n : Nod) (hn : n.kind = (ats T (nd i' (j / 2 ^ i'))).kind) :
    ∀ a, a + i' ≤ K → toldJ K j (T.set (nd i' (j / 2 ^ i')) n) a = toldJ K j T a
  | 0, _ => rfl
  | a + 1, h => by
    have hy : nd i' (j / 2 ^ i') < T.length := by
      rw [hl]
      have := quot_lt (K := K) (j := 0) (q := j) (i := i') (by simpa using hj) (by omega)
      exact nd_lt (by omega) (by simpa using this)
    have e : K - a = (K - a - 1) + 1 := by omega
    have hk : (ats (T.set (nd i' (j / 2 ^ i')) n) (rowJ K j a)).kind = (ats T (rowJ K j a)).kind := by
      rw [ats_set _ _ _ _ hy]
      split
      · next e => rw [hn, e]
      · rfl
    unfold toldJ
    rw [hk]
    split
    · unfold rowJ
      rw [e]
      exact abo_out hK (by omega) (by omega) hj hl n
    · exact told_out hK hj hl n hn a (by omega)
theorem rowJ_inj {K j a b : Nat} (ha : a < K) (hb : b < K) (h : rowJ K j a = rowJ K j b) : a = b := by
  have := (nd_inj h).1
  omega
theorem row_get {K j m : Nat} (h : m < K) : (pathN K 0 j).getD (K - 1 - m) 0 = rowJ K j m := by
  rw [List.getD_eq_getElem?_getD, pathN_get K 0 j (K - 1 - m) (by omega)]
  unfold rowJ
  rw [show 0 + 1 + (K - 1 - m) = K - m by omega, show K - 1 - m + 1 = K - m by omega]
  rfl
/-- A step down a leaf's path. -/
theorem lay_step (j : Nat) (s : List Nod × List UInt8) (x : Nat) : layS j s x = if (ats s.1 x).kind = 2 then (s.1.set x (hashN (ats s.1 x) s.2), aboV (s.1.set x (hashN (ats s.1 x) s.2)) (x : Int) (sdJ j x)) else s := rfl
theorem told_walk {u : List Nod} {K j : Nat} (hK : K ≤ 10) (hj : j < 2 ^ K) (hl : u.length = 2 ^ (K + 1) - 1) (SM : Nat → List Nod × List UInt8) (h0 : SM 0 = (u, [])) (hn : ∀ m, m < K → SM (m + 1) = layS j (SM m) (rowJ K j m)) :
    ∀ m, m ≤ K → (SM m).1.length = u.length ∧ (∀ y, (ats (SM m).1 y).kind = (ats u y).kind) ∧ (∀ a, a < m → (ats u (rowJ K j a)).kind = 2 → (ats (SM m).1 (rowJ K j a)).hash = toldJ K j (SM m).1 a) ∧ (SM m).2 = toldJ K j (SM m).1 m ∧
      (∀ y, (∀ a, a < m → y ≠ rowJ K j a) → ats (SM m).1 y = ats u y)
  | 0, _ => by rw [h0]; exact ⟨rfl, fun _ => rfl, fun a h => absurd h (Nat.not_lt_zero _), rfl, fun _ _ => rfl⟩
  | m + 1, hm => by
    obtain ⟨g1, g2, g3, g4, g5⟩ := told_walk hK hj hl SM h0 hn m (by omega)
    rw [hn m (by omega), lay_step]
    have hlm : (SM m).1.length = 2 ^ (K + 1) - 1 := g1.trans hl
    have hx : rowJ K j m < (SM m).1.length := by rw [hlm]; exact rowJ_lt hj
    by_cases hk : (ats (SM m).1 (rowJ K j m)).kind = 2
    · rw [if_pos hk]
      have hA := ats_set (SM m).1 (rowJ K j m) (hashN (ats (SM m).1 (rowJ K j m)) (SM m).2)
      have hkk : ∀ y, (ats ((SM m).1.set (rowJ K j m) (hashN (ats (SM m).1 (rowJ K j m)) (SM m).2)) y).kind = (ats (SM m).1 y).kind := fun y => by
        rw [hA y hx]; split
        · next e => rw [e]; rfl
        · rfl
      have hto : ∀ a, a ≤ m → toldJ K j ((SM m).1.set (rowJ K j m) (hashN (ats (SM m).1 (rowJ K j m)) (SM m).2)) a = toldJ K j (SM m).1 a := fun a ha => told_out (i' := K - m) hK hj hlm (hashN (ats (SM m).1 (rowJ K j m)) (SM m).2) rfl a (by omega)
      refine ⟨(List.length_set ..).trans g1, fun y => (hkk y).trans (g2 y), fun a ha hka => ?_, ?_, fun y hy => ?_⟩
      · show (ats ((SM m).1.set _ _) _).hash = toldJ K j ((SM m).1.set _ _) a
        rw [hto a (by omega), hA _ hx]
        by_cases e : a = m
        · subst e
          rw [if_pos rfl]
          exact g4
        · rw [if_neg (fun h => e (rowJ_inj (by omega) (by omega) h))]
          exact g3 a (by omega) hka
      · show aboV _ _ _ = toldJ K j ((SM m).1.set _ _) (m + 1)
        unfold toldJ
        rw [if_pos ((hkk _).trans hk)]
      · show ats ((SM m).1.set _ _) y = _
        rw [hA _ hx, if_neg (hy m (by omega))]
        exact g5 y fun a ha => hy a (by omega)
    · rw [if_neg hk]
      refine ⟨g1, g2, fun a ha hka => ?_, ?_, fun y hy => g5 y fun a ha => hy a (by omega)⟩
      · by_cases e : a = m
        · subst e
          rw [← g2] at hka
          exact absurd hka hk
        · exact g3 a (by omega) hka
      · rw [g4]
        show _ = toldJ K j (SM m).1 (m + 1)
        conv => rhs; unfold toldJ
        rw [if_neg hk]
/-- A tree that Laid laid. -/
theorem told_facts {u : List Nod} {K j : Nat} (hr : RightK u K) (hj : j < 2 ^ K) (hth : (ats u (2 * j)).kind = 1) :
    layE u (j : Int) = 0 ∧ (layV u (j : Int)).length = u.length ∧ (∀ y, (ats (layV u (j : Int)) y).kind = (ats u y).kind) ∧ (∀ a, a < K → (ats u (rowJ K j a)).kind = 2 → (ats (layV u (j : Int)) (rowJ K j a)).hash = toldJ K j (layV u (j : Int)) a) ∧
      (ats (layV u (j : Int)) (2 * j)).hash = toldJ K j (layV u (j : Int)) K ∧ (∀ y, y ≠ 2 * j → (∀ a, a < K → y ≠ rowJ K j a) → ats (layV u (j : Int)) y = ats u y) := by
  have hp := (hr.there_iff j).2 hth
  obtain ⟨q1, _, q3⟩ := path_in hr.le hr.len hj
  have hPL : (pathN K 0 j).length = K := by rw [← q1]; exact q3
  obtain ⟨g1, g2, g3, g4, g5⟩ := told_walk hr.le hj hr.len (fun m => ((pathT u j).reverse.take m).foldl (layS j) (u, [])) rfl (fun m hm => by
    rw [q1]
    show ((pathN K 0 j).reverse.take (m + 1)).foldl (layS j) (u, []) = _
    rw [take_foldl _ _ _ m 0 (by rw [List.length_reverse, hPL]; exact hm)]
    congr 1
    rw [← row_get hm, List.getD_eq_getElem?_getD, List.getD_eq_getElem?_getD, List.getElem?_reverse (by omega), hPL]) K (Nat.le_refl _)
  have hD : ((pathT u j).reverse.take K).foldl (layS j) (u, []) = layD u j := by
    unfold layD
    rw [List.take_of_length_le (by rw [List.length_reverse, q3]; exact Nat.le_refl _)]
  simp only [hD] at g1 g2 g3 g4 g5
  have hV : layV u (j : Int) = (layD u j).1.set (2 * j) (hashN (ats (layD u j).1 (2 * j)) (layD u j).2) := by
    unfold layV
    rw [if_pos hp, Int.toNat_natCast]
  have hl2 := hr.len2
  have hx : 2 * j < (layD u j).1.length := by rw [g1]; omega
  have hA := ats_set (layD u j).1 (2 * j) (hashN (ats (layD u j).1 (2 * j)) (layD u j).2)
  have hlD : (layD u j).1.length = 2 ^ (K + 1) - 1 := g1.trans hr.len
  have hto : ∀ a, a ≤ K → toldJ K j ((layD u j).1.set (2 * j) (hashN (ats (layD u j).1 (2 * j)) (layD u j).2)) a = toldJ K j (layD u j).1 a := fun a ha => by
    have := told_out hr.le hj hlD (hashN (ats (layD u j).1 (2 * j)) (layD u j).2) (i' := 0) (by rw [nd_leaf]; simp [hashN]) a (by omega)
    rw [nd_leaf] at this
    simpa using this
  rw [hV]
  refine ⟨if_pos hp, (List.length_set ..).trans g1, fun y => ?_, fun a ha hka => ?_, ?_, fun y hy hya => ?_⟩
  · rw [hA y hx]; split
    · next e => rw [e]; exact g2 _
    · exact g2 y
  · have hodd : rowJ K j a ≠ 2 * j := fun e => by
      have : rowJ K j a = nd 0 j := by rw [e, nd_leaf]
      have := (nd_inj this).1
      omega
    rw [hto a (by omega), hA _ hx, if_neg hodd]
    exact g3 a ha hka
  · rw [hto K (Nat.le_refl _), hA _ hx, if_pos rfl]
    exact g4
  · rw [hA _ hx, if_neg hy]
    exact g5 y hya
end Go.Proofs.YtobldbodafaajaaDoor
