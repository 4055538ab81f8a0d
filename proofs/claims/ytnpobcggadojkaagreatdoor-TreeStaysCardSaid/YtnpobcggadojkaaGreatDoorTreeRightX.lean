/- tree.Right. -/
import Derived.Test.YtnpobcggadojkaaGreatDoorTreeIt9
import Derived.Test.YtnpobcggadojkaaGreatDoorTreeNamed
set_option linter.unusedVariables false
set_option linter.unusedSimpArgs false
namespace Go.Proofs.YtnpobcggadojkaaGreatDoor
open Go.RowKit

/-- What the code asks of a node. -/
def CodeOk (t : List Nod) (x : Nat) : Prop := standsP (ats t x) (x : Int) ∧ wholeP t (lev x) (qOf x) (ats t x)
theorem code_ok {t : List Nod} {K j q : Nat} (hK : K ≤ 10) (hl : t.length = 2 ^ (K + 1) - 1) (hj : j ≤ K) (hq : q < 2 ^ (K - j)) (h : okP t (nd j q)) : CodeOk t (nd j q) := by
  obtain ⟨s1, s2, s3⟩ := nd_small hK hj hq
  have hlv := levV_nd s2 s3
  obtain ⟨l1, l2⟩ := lv_nd s2 s3
  have hpar : (j = 0 ∧ ((nd j q : Nat) : Int) % 2 = 0) ∨ (¬ j = 0 ∧ ((nd j q : Nat) : Int) % 2 = 1) := by
    cases j with
    | zero => have := nd_even q; left; exact ⟨rfl, by omega⟩
    | succ j => have := nd_odd j q; right; exact ⟨by omega, by omega⟩
  unfold CodeOk
  rw [lev_nd j q (by omega), qOf_nd j q (by omega)]
  unfold standsP wholeP
  rw [hlv]
  rcases h with h | ⟨h1, ⟨n1, n2, n3⟩, h3, h4, h5⟩
  · rw [h]
    exact ⟨by rw [if_neg (by decide)]; exact ⟨rfl, .inl rfl⟩, .inl ⟨rfl, rfl, rfl, rfl⟩⟩
  · rcases hpar with ⟨e1, e2⟩ | ⟨e1, e2⟩
    · rw [e2] at h1
      have hk : (ats t (nd j q)).kind = 1 := h1
      have hu := h4 hk
      refine ⟨by rw [if_pos hk]; exact ⟨by omega, n1, n2⟩, .inr ⟨.inl ⟨hk, by rw [hu]; rfl⟩, n3, h3, ?_⟩⟩
      rw [isBel_iff, hu]
      exact ⟨List.Pairwise.nil, fun x hx => absurd hx (List.not_mem_nil)⟩
    · rw [e2] at h1
      have hk : (ats t (nd j q)).kind = 2 := h1
      obtain ⟨u0, u1, u2⟩ := h5 hk
      refine ⟨by rw [if_neg (by rw [hk]; decide)]; exact ⟨u0, .inr (by omega)⟩, .inr ⟨.inr hk, n3, h3, ?_⟩⟩
      rw [isBel_iff]
      refine ⟨u1, fun i hi => ?_⟩
      obtain ⟨a1, a2, a3⟩ := u2 i hi
      rw [l1] at a1
      rw [l2] at a2
      have := p2_pos j
      exact ⟨i.toNat, by omega, by omega, by omega, by rw [a3]; decide⟩
theorem code_even {t : List Nod} {i : Nat} (h : CodeOk t (2 * i)) (hi : i < 1024) (hk : ¬ (ats t (2 * i)).kind = 0) : (ats t (2 * i)).kind = 1 ∧ 0 ≤ (ats t (2 * i)).name := by
  have hlv := levV_nd (j := 0) (q := i) (by omega) (by simpa using hi)
  rw [nd_leaf] at hlv
  unfold CodeOk standsP wholeP at h
  rw [hlv] at h
  obtain ⟨h1, h2⟩ := h
  by_cases e : (ats t (2 * i)).kind = 1
  · rw [if_pos e] at h1
    exact ⟨e, h1.2.1⟩
  · rw [if_neg e] at h1
    exact absurd rfl (h1.2.elim (fun h => absurd h hk) id)
theorem ok_code {t : List Nod} {K j q : Nat} (hK : K ≤ 10) (hl : t.length = 2 ^ (K + 1) - 1) (hj : j ≤ K) (hq : q < 2 ^ (K - j)) (hall : ∀ x, x < t.length → CodeOk t x) : okP t (nd j q) := by
  have hx : nd j q < t.length := by rw [hl]; exact nd_lt hj hq
  have h := hall _ hx
  obtain ⟨s1, s2, s3⟩ := nd_small hK hj hq
  have hlv := levV_nd s2 s3
  obtain ⟨l1, l2⟩ := lv_nd s2 s3
  have hpar : (j = 0 ∧ ((nd j q : Nat) : Int) % 2 = 0) ∨ (¬ j = 0 ∧ ((nd j q : Nat) : Int) % 2 = 1) := by
    cases j with
    | zero => have := nd_even q; left; exact ⟨rfl, by omega⟩
    | succ j => have := nd_odd j q; right; exact ⟨by omega, by omega⟩
  unfold CodeOk at h
  rw [lev_nd j q (by omega), qOf_nd j q (by omega)] at h
  unfold standsP wholeP at h
  rw [hlv] at h
  obtain ⟨h1, h2⟩ := h
  rcases h2 with ⟨k0, z1, z2, z3⟩ | ⟨hk, z1, z2, z3⟩
  · rw [if_neg (by rw [k0]; decide)] at h1
    exact (ok_zero k0).2 ⟨h1.1, z1, z2, z3⟩
  · refine .inr ?_
    rcases hk with ⟨hk, hu⟩ | hk
    · rw [if_pos hk] at h1
      rcases hpar with ⟨e1, e2⟩ | ⟨e1, e2⟩
      · exact ⟨by rw [hk, e2]; rfl, ⟨h1.2.1, h1.2.2, z1⟩, z2, fun _ => List.eq_nil_of_length_eq_zero hu, fun e => (by rw [hk] at e; cases e)⟩
      · exact absurd h1.1 (by omega)
    · rw [if_neg (by rw [hk]; decide)] at h1
      have hne : ¬ ((j : Nat) : Int) = 0 := h1.2.elim (fun e => by rw [hk] at e; cases e) id
      rcases hpar with ⟨e1, e2⟩ | ⟨e1, e2⟩
      · exact absurd (by omega) hne
      · refine ⟨by rw [hk, e2]; rfl, ⟨by rw [h1.1]; omega, by rw [h1.1]; omega, z1⟩, z2, fun e => (by rw [hk] at e; cases e), fun _ => ⟨h1.1, ?_⟩⟩
        rw [isBel_iff] at z3
        refine ⟨z3.1, fun i hi => ?_⟩
        obtain ⟨k, rfl, b1, b2, b3⟩ := z3.2 i hi
        have hkl : 2 * k < t.length := RightK.lt_of b3
        have h4 := p2_le hK
        have h5 := p2_succ K
        rw [l1, l2, Int.toNat_natCast]
        exact ⟨by omega, by omega, (code_even (hall _ hkl) (by omega) b3).1⟩
theorem right_code {t : List Nod} {K : Nat} (hK : K ≤ 10) (hl : t.length = 2 ^ (K + 1) - 1) (hall : ∀ x, x < t.length → CodeOk t x) : RightP t ↔ namesN t K ≠ [] ∧ (namesN t K).Nodup := by
  have hok : ∀ x, x < t.length → okP t x := fun x hx => by
    obtain ⟨j, q, rfl, hj, hq⟩ := nd_of K x (by rw [← hl]; exact hx)
    exact ok_code hK hl hj hq hall
  have h4 := p2_le hK
  have h5 := p2_succ K
  have hev : ∀ i, i < 2 ^ K → ¬ (ats t (2 * i)).kind = 0 → (ats t (2 * i)).kind = 1 ∧ 0 ≤ (ats t (2 * i)).name := fun i hi hk => code_even (hall _ (by omega)) (by omega) hk
  have hmem : ∀ i, i ∈ nbL t (2 ^ K * 0) (2 ^ K) ↔ i < 2 ^ K ∧ ¬ (ats t (2 * i)).kind = 0 := fun i => by
    rw [nbL_mem, Nat.mul_zero]
    exact ⟨fun h => ⟨by omega, h.2.2⟩, fun h => ⟨by omega, by omega, h.2⟩⟩
  have hsrt := nbL_sorted t (2 ^ K * 0) (2 ^ K)
  have hnd : (namesN t K).Nodup ↔ ∀ i k, i < k → k < 2 ^ K → (ats t (2 * i)).kind = 1 → (ats t (2 * k)).kind = 1 → (ats t (2 * i)).name ≠ (ats t (2 * k)).name := by
    unfold namesN
    rw [List.nodup_iff_pairwise_ne, List.pairwise_map]
    constructor
    · intro h i k hik hk k1 k2 he
      obtain ⟨m, hm, e1⟩ := List.getElem_of_mem ((hmem i).2 ⟨by omega, by rw [k1]; decide⟩)
      obtain ⟨n, hn, e2⟩ := List.getElem_of_mem ((hmem k).2 ⟨hk, by rw [k2]; decide⟩)
      have hmn : m < n := by
        rcases Nat.lt_trichotomy m n with h3 | h3 | h3
        · exact h3
        · subst h3; omega
        · have := List.pairwise_iff_getElem.1 hsrt n m hn hm h3; omega
      have := List.pairwise_iff_getElem.1 h m n hm hn hmn
      rw [e1, e2, he] at this
      exact this rfl
    · intro h
      refine hsrt.imp_of_mem fun {a b} ha hb hab => ?_
      obtain ⟨a1, a2⟩ := (hmem a).1 ha
      obtain ⟨b1, b2⟩ := (hmem b).1 hb
      obtain ⟨a3, a4⟩ := hev a a1 a2
      obtain ⟨b3, b4⟩ := hev b b1 b2
      have := h a b hab b1 a3 b3
      omega
  have hne : namesN t K ≠ [] ↔ ∃ i, i < 2 ^ K ∧ (ats t (2 * i)).kind = 1 := by
    unfold namesN
    rw [ne_eq, List.map_eq_nil_iff]
    constructor
    · intro h
      obtain ⟨i, hi⟩ := List.exists_mem_of_ne_nil _ h
      exact ⟨i, ((hmem i).1 hi).1, (hev i ((hmem i).1 hi).1 ((hmem i).1 hi).2).1⟩
    · rintro ⟨i, h1, h2⟩
      exact List.ne_nil_of_mem ((hmem i).2 ⟨h1, by rw [h2]; decide⟩)
  rw [hne, hnd]
  constructor
  · rintro ⟨K', h⟩
    obtain ⟨x, hx, hk⟩ := h.used
    have hxe := ok_even (h.ok x hx) hk
    refine ⟨⟨x / 2, by omega, by rw [show 2 * (x / 2) = x by omega]; exact hk⟩, fun i k hik hk' k1 k2 => h.one (2 * i) (2 * k) (by omega) (by omega) k1 k2⟩
  · rintro ⟨⟨i, hi, hk⟩, h2⟩
    refine ⟨K, hK, hl, hok, fun x y hxy hy k1 k2 => ?_, ⟨2 * i, by omega, hk⟩⟩
    have e1 := ok_even (hok x (by omega)) k1
    have e2 := ok_even (hok y hy) k2
    have := h2 (x / 2) (y / 2) (by omega) (by omega) (by rw [show 2 * (x / 2) = x by omega]; exact k1) (by rw [show 2 * (y / 2) = y by omega]; exact k2)
    rwa [show 2 * (x / 2) = x by omega, show 2 * (y / 2) = y by omega] at this
theorem right_all {t : List Nod} (h : RightP t) : ∀ x, x < t.length → CodeOk t x := fun x hx => by
  obtain ⟨K, h⟩ := h
  obtain ⟨j, q, rfl, hj, hq⟩ := nd_of K x (by rw [← h.len]; exact hx)
  exact code_ok h.le h.len hj hq (h.ok _ hx)

set_option maxHeartbeats 4000000 in
theorem treeRight_any (u : Value) (t : List Nod) (w : World) (hu : NL w u t) (hl : t.length ≤ 100000) (hT : Tab w) :
    Calls Tryz.prog 14 #[u] w fun e w' => Tells e (RightP t) ∧ Kp w w' := by
  have HSZ := Lib.hid (treeSize_any u t w hu hl)
  have HU := Lib.hid hu
  obtain ⟨a, c, rfl, p1, s1⟩ := hu.shape
  unfold maxLen at s1
  by_cases hs : sizeN t = 0
  · have HB : Hid (¬ RightP t) := fun ⟨K, h⟩ => (sizeN_iff t).2 ⟨K, h.le, h.len⟩ hs
    rw [hs] at HSZ
    generalize RightP t = RP at *
    clear hs hu HU
    go_enter Tryz.func14, Tryz.ntmps14
    go_wp2_with fail
    refine HSZ.out.mono ?_; rintro _ _ ⟨rfl, rfl⟩
    go_wp2_with fail
    go_ret
    exact ⟨Tells.no HB.out, Kp.refl _⟩
  · obtain ⟨K, hK, hlen⟩ := (sizeN_iff t).1 hs
    have h4 := p2_le hK
    have h5 := p2_succ K
    have HST : Hid (∀ x W v, NV W v (ats t x) → Kp w W → Calls Tryz.prog 42 #[v, .int .i64 (x : Int)] W fun e w' => Tells e (standsP (ats t x) (x : Int)) ∧ Kp W w') := fun x W v hv hW => treeStands_any v (ats t x) (x : Int) W hv (hT.kp hW)
    have HWH : Hid (∀ x W, x < t.length → Kp w W → Calls Tryz.prog 43 #[.slice a t.length c, .int .i64 (x : Int)] W fun e w' => Tells e (wholeP t (lev x) (qOf x) (ats t x)) ∧ Kp W w') := fun x W hx hW => by
      obtain ⟨j, q, rfl, hj, hq⟩ := nd_of K x (by rw [← hlen]; exact hx)
      obtain ⟨s1, s2, s3⟩ := nd_small hK hj hq
      rw [lev_nd j q (by omega), qOf_nd j q (by omega)]
      obtain ⟨l1, l2⟩ := lv_nd s2 s3
      obtain ⟨m1, m2, m3, m4⟩ := lohi_in hK hlen hx
      rw [l2] at m3
      exact treeIsWhole_any _ t j q (nd j q) rfl W (hu.kp hW) hx s2 s3 (by omega) (hT.kp hW)
    have HNO : Hid (∀ k, k < t.length → ¬ CodeOk t k → ¬ RightP t) := fun k hk h e => h (right_all e k hk)
    have HAN : Hid ((∀ k, k < t.length → CodeOk t k) → ∀ W, Kp w W → Calls Tryz.prog 44 #[.slice a t.length c] W fun e w' => Tells e (RightP t) ∧ Kp W w') := fun h W hW => by
      refine (treeAreNamed_any _ t K W (hu.kp hW) hK hlen (fun i hi => ?_) (hT.kp hW)).mono ?_
      · have hil := RightK.lt_of hi
        exact (code_even (h _ hil) (by omega) hi).2
      · rintro _ w' ⟨rfl, hk⟩
        exact ⟨⟨_, rfl, by rw [decide_eq_true_iff, right_code hK hlen h]⟩, hk⟩
    have hsz : (((sizeN t : Nat) : Int) == 0) = false := beq_eq_false_iff_ne.2 (by omega)
    have hsz2 : ¬ ((sizeN t : Nat) : Int) = 0 := by omega
    generalize ((sizeN t : Nat) : Int) = SZ at *
    generalize RightP t = RP at *
    obtain ⟨N, hN⟩ : ∃ N, t.length = N := ⟨_, rfl⟩
    rw [hN] at HU p1 HSZ HWH HAN HNO hl ⊢
    clear hu hN hs hlen hK h4 h5 hT
    go_enter Tryz.func14, Tryz.ntmps14
    go_wp2_with fail
    refine HSZ.out.mono ?_; rintro _ _ ⟨rfl, rfl⟩
    clear HSZ
    go_wp2_with fail
    go_loopw [9] (fun x wr => ∃ k : Nat, k ≤ N ∧ x = .int .i64 (k : Int) ∧ (∀ i, i < k → CodeOk t i) ∧ Kp w wr) (fun x _ => (N - (intOf x).toNat))
    case atStart => exact ⟨0, Nat.zero_le _, rfl, fun i h => by omega, Kp.refl _⟩
    case round =>
      obtain ⟨k, hk, rfl, hpre, hkp⟩ := hrel
      by_cases hlt : k < N
      · obtain ⟨g1, o1, rfl, _, hc1⟩ := HU.out.at k hlt
        obtain ⟨x1, y1, z1, n1⟩ := hc1 k hlt
        have m1 := n1.kp hkp
        obtain ⟨c10, c11, c12, c13, c14⟩ := And.intro m1.kind (And.intro m1.name (And.intro m1.pubC (And.intro m1.unC m1.hashC)))
        obtain ⟨xa, na, ca, rfl⟩ := rd_sl9 m1.2.pub
        obtain ⟨xb, nb, cb, rfl⟩ := m1.2.un.sl
        obtain ⟨xc, nc, cc, rfl⟩ := rd_sl9 m1.2.hash
        have HC := Lib.hid (HST.out k wr _ ⟨_, _, _, rfl, m1.2⟩ hkp)
        simp only [nodC] at HC
        have HW := Lib.hid (fun W hW => HWH.out k W hlt (hkp.trans hW))
        have HN2 := HNO.out k hlt
        have i1 : IntKind.i64.wrap ((k : Int) + 1) = (k : Int) + 1 := IntWalk.i64_in _ (by omega)
        have i2 : (k : Int) < (N : Int) := by omega
        have HPR : Hid (CodeOk t k → ∀ i, i < k + 1 → CodeOk t i) := fun h i hi => by
          rcases Nat.lt_or_eq_of_le (Nat.lt_succ_iff.1 hi) with h3 | h3
          · exact hpre i h3
          · rw [h3]; exact h
        have KK := Lib.hid hkp
        have HCE : Hid (CodeOk t k ↔ standsP (ats t k) (k : Int) ∧ wholeP t (lev k) (qOf k) (ats t k)) := Iff.rfl
        clear hc1 hpre hkp n1 m1 HAN HNO HST HWH
        generalize standsP (ats t k) (k : Int) = SP at *
        generalize wholeP t (lev k) (qOf k) (ats t k) = WP at *
        generalize CodeOk t k = CK at *
        generalize (ats t k) = A1 at *
        go_wp2_with fail
        refine HC.out.mono ?_
        rintro _ w1 ⟨⟨b1, rfl, hb1⟩, k1⟩
        cases b1 with
        | false =>
          have HB : Hid (¬ RP) := HN2 fun h => by have := hb1.2 (HCE.out.1 h).1; cases this
          have K1 := Lib.hid (KK.out.trans k1)
          clear hb1 HN2 HCE HW HC HPR k1
          go_wp2_with fail
          go_ret
          exact ⟨Tells.no HB.out, K1.out⟩
        | true =>
          have hsp := hb1.1 rfl
          have HW1 := Lib.hid (HW.out w1 k1)
          have K1 := Lib.hid (KK.out.trans k1)
          clear hb1 HW HC k1
          go_wp2_with fail
          refine HW1.out.mono ?_
          rintro _ w2 ⟨⟨b2, rfl, hb2⟩, k2⟩
          have K2 := Lib.hid (K1.out.trans k2)
          cases b2 with
          | false =>
            have HB : Hid (¬ RP) := HN2 fun h => by have := hb2.2 (HCE.out.1 h).2; cases this
            clear hb2 HN2 HCE HPR k2 hsp
            go_wp2_with fail
            go_ret
            exact ⟨Tells.no HB.out, K2.out⟩
          | true =>
            have HP := Lib.hid (HPR.out (HCE.out.2 ⟨hsp, hb2.1 rfl⟩))
            clear hb2 HN2 HCE HPR k2 hsp
            go_wp2_with fail
            go_roundw
            case rel => exact ⟨k + 1, by omega, by first | rfl | (rw [i1]; rfl), HP.out, K2.out⟩
            case measure => simp [intOf]; omega
      · obtain rfl : k = N := by omega
        have HB := Lib.hid (HAN.out hpre wr hkp)
        have KK := Lib.hid hkp
        have i2 : ¬ (k : Int) < (k : Int) := by omega
        clear HAN HNO HST HWH hpre hkp
        go_wp2_with fail
        refine HB.out.mono ?_
        rintro _ w1 ⟨⟨b1, rfl, hb1⟩, k1⟩
        have HR := Lib.hid (And.intro hb1 (KK.out.trans k1))
        clear hb1 k1 HB
        go_wp2_with fail
        go_ret
        exact ⟨⟨b1, rfl, HR.out.1⟩, HR.out.2⟩
end Go.Proofs.YtnpobcggadojkaaGreatDoor
