import Derived.Test.YtigpgcjbpoaclaaDoorC32
import Derived.Test.YtigpgcjbpoaclaaDoorC40
set_option linter.unusedVariables false
set_option linter.unusedSimpArgs false
namespace Go.Proofs.YtigpgcjbpoaclaaDoor
open Go.RowKit
theorem SE.pre13 {α : Type} {S : Sh α} {Z : Nat → Prop} {w : World} {a : Option Addr} {n c : Nat} {t : List α} (h : SE S Z w (.slice a n c) t) (k : Nat) (hk : k ≤ n) : SE S Z w (.slice a k k) (t.take k) := by
  obtain ⟨a', c', e, h1, h2, h3, h4⟩ := h
  simp only [Value.slice.injEq] at e
  obtain ⟨rfl, rfl, rfl⟩ := e
  have hl : (t.take k).length = k := by rw [List.length_take]; omega
  refine ⟨a, k, by rw [hl], by omega, by omega, fun e => by have := h3 e; omega, fun h0 => ?_⟩
  rw [hl] at h0
  obtain ⟨b, off, ha, hb, hi⟩ := h4 (by omega)
  refine ⟨b, off, ha, hb, fun i x hx => hi i x ?_⟩
  rw [List.getElem?_take] at hx
  split at hx
  · exact hx
  · cases hx
theorem SZ.kp13 {α : Type} {S : Sh α} {Z : Nat → Prop} {w w' : World} {v : Value} {t : List α} (h : SZ S Z w v t) (k : Kp w w') : SZ S Z w' v t := h.step (Step.of_kp k)
theorem SZ.pre13 {α : Type} {S : Sh α} {Z : Nat → Prop} {w : World} {a : Option Addr} {n c : Nat} {t : List α} (h : SZ S Z w (.slice a n c) t) (k : Nat) (hk : k ≤ n) : SZ S Z w (.slice a k k) (t.take k) :=
  ⟨h.1.pre13 k hk, fun x m d e h0 => by
    simp only [Value.slice.injEq] at e
    exact h.2 x n c (by rw [e.1]) (by omega)⟩
theorem SZ.cut13 {α : Type} {S : Sh α} {Z : Nat → Prop} {w : World} {b off n c : Nat} {t : List α} (h : SZ S Z w (.slice (some ⟨b, off, none⟩) n c) t) (k : Nat) (hk : k ≤ n) (a' : Option Addr) (ha : k < n → a' = some ⟨b, off + k * S.k, none⟩) (hc : a' = none → c - k = 0) : SZ S Z w (.slice a' (n - k) (c - k)) (t.drop k) :=
  ⟨SE.cut h.1 k hk a' ha hc, fun x m d e h0 hz => by
    simp only [Value.slice.injEq] at e
    have h1 := ha (by omega)
    rw [h1] at e
    have h2 := e.1
    simp only [Option.some.injEq] at h2
    rw [← h2] at hz
    exact h.2 _ n c rfl (by omega) hz⟩
set_option maxRecDepth 100000 in
set_option maxHeartbeats 1000000 in
theorem ratchWithout_any (v : Value) (l : List Lk) (k : Nat) (Z : Nat → Prop) (w : World) (hv : SZ shLk Z w v l) (hZ : ∀ g, Z g → g < w.heap.size) (hk : k < l.length) (hl : l.length ≤ 10000) :
    Calls Tryd.prog 30 #[v, .int .i64 (k : Int)] w fun e w' => (∃ v', e = .returned v' ∧ SZ shLk Z w' v' (l.eraseIdx k)) ∧ Kp w w' := by
  obtain ⟨a, c, rfl, p1, s1⟩ := SE.shape hv.1
  unfold maxLen at s1
  obtain ⟨b, off, rfl, _, _⟩ := SE.at hv.1 (by omega)
  have HP := Lib.hid (fun W (hW : Kp w W) => SZ.pre13 (SZ.kp13 hv hW) k (by omega))
  obtain ⟨A, hA⟩ : ∃ A : Option Addr, (if c = k + 1 then some ⟨b, off, none⟩ else some ⟨b, off + (k + 1) * 3, none⟩) = A := ⟨_, rfl⟩
  have HC : Hid (∀ W, Kp w W → SZ shLk Z W (.slice A (l.length - (k + 1)) (c - (k + 1))) (l.drop (k + 1))) := fun W hW => SZ.cut13 (SZ.kp13 hv hW) (k + 1) (by omega) A (fun h => by rw [← hA, if_neg (by omega)]; rfl) (fun h => by rw [h] at hA; split at hA <;> cases hA)
  have HE : Hid (l.take k ++ l.drop (k + 1) = l.eraseIdx k) := (List.eraseIdx_eq_take_drop_succ _ _).symm
  have HLE : Hid ((l.take k).length + (l.drop (k + 1)).length ≤ 1000000) := by unfold Hid; rw [List.length_take, List.length_drop]; omega
  obtain ⟨N, hN⟩ : ∃ N, l.length = N := ⟨_, rfl⟩
  rw [hN] at HC hk hl p1 ⊢
  have i1 : IntKind.i64.wrap ((k : Int) + 1) = (k : Int) + 1 := IntWalk.i64_in _ (by omega)
  have i2 : (k : Int) ≤ (c : Int) := by omega
  have i3 : (k : Int) + 1 ≤ (N : Int) := by omega
  have i4 : 0 ≤ (k : Int) + 1 := by omega
  clear hv hN
  go_enter Tryd.func30, Tryd.ntmps30
  go_wp2_with fail
  go_region_law (first | (refine step_append_full (S := shLk) lkKc rfl (.tmp 8) (.tmp 12) rfl (some ⟨b, off, none⟩) k (l.take k) (l.drop (k + 1)) (by go_simp) (HP.out w.drew (Kp.refl w).drew) (.slice A (N - (k + 1)) (c - (k + 1))) (by go_simp) (HC.out w.drew (Kp.refl w).drew) hZ HLE.out ?_; intro v' w' g' k'; rw [HE.out] at g'; obtain ⟨a', n', c', rfl⟩ := SE.sl g'.1; have G' := Lib.hid g'; have K' : Hid (Kp w w') := (Kp.refl w).drew.trans k'; clear g' k'))
  go_wp2_with fail
  go_ret
  exact ⟨⟨_, rfl, G'.out⟩, K'.out⟩
set_option maxRecDepth 100000 in
set_option maxHeartbeats 1000000 in
theorem ratchWith_any (u v : Value) (l m : List Lk) (Z : Nat → Prop) (w : World) (hu : SZ shLk Z w u l) (hv : SZ shLk Z w v m) (hZ : ∀ g, Z g → g < w.heap.size) (hl : l.length + m.length ≤ 10000) :
    Calls Tryd.prog 47 #[u, v] w fun e w' => (∃ v', e = .returned v' ∧ SZ shLk Z w' v' (lastL (l ++ m))) ∧ Kp w w' := by
  obtain ⟨a, c, rfl, p1, s1⟩ := SE.shape hu.1
  obtain ⟨a2, n2, c2, rfl⟩ := SE.sl hv.1
  unfold maxLen at s1
  have HP : Hid (SZ shLk Z w (.slice a l.length l.length) l) := by
    have := SZ.pre13 hu l.length (Nat.le_refl _)
    rwa [List.take_length] at this
  have HV := Lib.hid hv
  have HLE : Hid (l.length + m.length ≤ 1000000) := by unfold Hid; omega
  have HQ : Hid ((l ++ m).length ≤ 10000) := by unfold Hid; rw [List.length_append]; exact hl
  have HLA : Hid (lastL (l ++ m) = (l ++ m).drop ((l ++ m).length - 32)) := rfl
  have i2 : (l.length : Int) ≤ (c : Int) := by omega
  generalize lastL (l ++ m) = LA at *
  obtain ⟨Q, hQ⟩ : ∃ Q, (l ++ m).length = Q := ⟨_, rfl⟩
  have HQL := Lib.hid hQ
  rw [hQ] at HQ HLA
  clear hu hv hl hQ
  by_cases h6 : 32 < Q
  · obtain ⟨D, hD⟩ : ∃ D, Q = D + 32 := ⟨Q - 32, by omega⟩
    have HD := Lib.hid hD
    have i9 : IntKind.i64.wrap ((Q : Int) - 32) = (D : Int) := by have := HQ.out; rw [IntWalk.i64_in _ (by omega)]; omega
    have i10 : 0 < (D : Int) := by have := h6; omega
    have i11 : (D : Int) ≤ (Q : Int) := by omega
    have i12 : Q - D = 32 := by omega
    clear hD
    go_enter Tryd.func47, Tryd.ntmps47
    go_wp2_with (at_builtin; refine wpList_append_full (S := shLk) lkKc (o := ⟨some 13, _, _, _, _, _⟩) rfl _ _ rfl a l.length l m rfl HP.out _ rfl HV.out hZ HLE.out ?_; intro v' w' g' k'; obtain ⟨a', c', rfl, p', s'⟩ := SE.shape g'.1; rw [HQL.out] at g' p' ⊢; obtain ⟨b, off, rfl, _, _⟩ := SE.at g'.1 (by omega); have j1 : ¬ c' = D := (by have := HD.out; omega); have G' := Lib.hid g'; have K' := Lib.hid k'; clear g' k')
    go_ret
    refine ⟨⟨_, rfl, ?_⟩, K'.out⟩
    have h7 := SZ.cut13 G'.out D (by have := HD.out; omega) (some ⟨b, off + D * 3, none⟩) (fun _ => rfl) (fun h => by cases h)
    rw [HLA.out, show Q - 32 = D by have := HD.out; omega]
    rw [i12] at h7
    exact h7
  · have i9 : IntKind.i64.wrap ((Q : Int) - 32) = (Q : Int) - 32 := IntWalk.i64_in _ (by omega)
    have i10 : ¬ 0 < (Q : Int) - 32 := by omega
    have i11 : (Q : Int) - 32 ≤ 0 := by omega
    go_enter Tryd.func47, Tryd.ntmps47
    go_wp2_with (at_builtin; refine wpList_append_full (S := shLk) lkKc (o := ⟨some 13, _, _, _, _, _⟩) rfl _ _ rfl a l.length l m rfl HP.out _ rfl HV.out hZ HLE.out ?_; intro v' w' g' k'; obtain ⟨a', c', rfl, p', s'⟩ := SE.shape g'.1; rw [HQL.out] at g' p' ⊢; have G' := Lib.hid g'; have K' := Lib.hid k'; clear g' k')
    go_ret
    refine ⟨⟨_, rfl, ?_⟩, K'.out⟩
    rw [HLA.out, show Q - 32 = 0 by omega, List.drop_zero]
    exact G'.out
end Go.Proofs.YtigpgcjbpoaclaaDoor
