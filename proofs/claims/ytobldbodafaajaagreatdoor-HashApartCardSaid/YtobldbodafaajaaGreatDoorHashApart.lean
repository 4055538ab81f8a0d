/- What two nodes' bytes, and what two trees' digests, tell apart. Plain. -/
import Derived.Test.YtobldbodafaajaaGreatDoorHashPl10
set_option linter.unusedVariables false
set_option linter.unusedSimpArgs false
namespace Go.Proofs.YtobldbodafaajaaGreatDoor
open Go.RowKit

/-- Rows with something behind them tell where they end. -/
theorem row_cut10 {x y s t : List UInt8} (hx : x.length ≤ 1000000) (hy : y.length ≤ 1000000) (h : rowB x ++ s = rowB y ++ t) : x = y ∧ s = t := by
  have e : x = y := by
    rcases List.append_eq_append_iff.1 h with ⟨a, h1, _⟩ | ⟨a, h1, _⟩
    · exact (row_begins (by omega) (by omega) ⟨a, h1⟩).symm
    · exact row_begins (by omega) (by omega) ⟨a, h1⟩
  subst e
  exact ⟨rfl, List.append_cancel_left h⟩
theorem row_same10 {x y : List UInt8} (hx : x.length ≤ 1000000) (hy : y.length ≤ 1000000) (h : rowB x = rowB y) : x = y :=
  (row_cut10 (s := []) (t := []) hx hy (by rw [h])).1
theorem be2_inj10 {a b : Nat} (ha : a ≤ 65535) (hb : b ≤ 65535) (h : be 2 a = be 2 b) : a = b := by
  rw [be_cons, be_cons, be_cons, be_cons] at h
  simp only [List.cons.injEq] at h
  have h1 := congrArg UInt8.toNat h.1
  have h2 := congrArg UInt8.toNat h.2.1
  simp only [UInt8.toNat_ofNat'] at h1 h2
  omega
theorem unB_inj10 : ∀ (l m : List Int), (∀ i ∈ l, 0 ≤ i ∧ i ≤ 1023) → (∀ i ∈ m, 0 ≤ i ∧ i ≤ 1023) → unB l = unB m → l = m
  | [], [], _, _, _ => rfl
  | [], b :: m, _, _, h => by
    have := congrArg List.length h
    rw [unB_length, unB_length, List.length_cons, List.length_nil] at this
    omega
  | a :: l, [], _, _, h => by
    have := congrArg List.length h
    rw [unB_length, unB_length, List.length_cons, List.length_nil] at this
    omega
  | a :: l, b :: m, hl, hm, h => by
    have h2 : be 2 a.toNat ++ unB l = be 2 b.toNat ++ unB m := h
    obtain ⟨e1, e2⟩ := List.append_inj h2 (by rw [be_length, be_length])
    have ha := hl a (by simp)
    have hb := hm b (by simp)
    have e3 := be2_inj10 (by omega) (by omega) e1
    have e4 : a = b := by omega
    rw [e4, unB_inj10 l m (fun i hi => hl i (by simp [hi])) (fun i hi => hm i (by simp [hi])) e2]
/-- A node of a right tree: what it lacks. -/
def OkN (n : Nod) : Prop := n = blankN ∨ (n.kind = 1 ∧ n.un = []) ∨ (n.kind = 2 ∧ n.name = 0)
theorem RightK.okN {t : List Nod} {K : Nat} (h : RightK t K) (x : Nat) : OkN (ats t x) := by
  rcases h.okA x with h1 | ⟨h1, h2, h3, h4, h5⟩
  · exact .inl h1
  · by_cases e : (ats t x).kind = 1
    · exact .inr (.inl ⟨e, h4 e⟩)
    · have e2 : (ats t x).kind = 2 := by omega
      exact .inr (.inr ⟨e2, (h5 e2).1⟩)
theorem nodeB_1 {n : Nod} (h : n.kind = 1) : nodeB n = [1] ++ be 2 n.name.toNat ++ rowB n.pub ++ rowB n.hash := if_pos h
theorem nodeB_2 {n : Nod} (h : n.kind = 2) : nodeB n = [2] ++ rowB n.pub ++ rowB n.hash ++ rowB (unB n.un) := by unfold nodeB; rw [if_neg (by omega), if_pos h]
theorem nodeB_0 : nodeB blankN = [0] := rfl
theorem nodeB_head {n : Nod} (h : OkN n) : (nodeB n)[0]? = some (UInt8.ofNat n.kind.toNat) := by
  rcases h with h | ⟨h, _⟩ | ⟨h, _⟩
  · rw [h]; rfl
  · rw [nodeB_1 h, h]; rfl
  · rw [nodeB_2 h, h]; rfl
theorem nodeB_inj {a b : Nod} (ha : OkN a) (hb : OkN b) (ta : TidyN a) (tb : TidyN b) (h : nodeB a = nodeB b) : a = b := by
  have hh := congrArg (fun l : List UInt8 => l[0]?) h
  simp only [nodeB_head ha, nodeB_head hb, Option.some.injEq] at hh
  have hk : a.kind = b.kind := by
    have h2 := congrArg UInt8.toNat hh
    simp only [UInt8.toNat_ofNat'] at h2
    rcases ta.kind with e | e | e <;> rcases tb.kind with f | f | f <;> rw [e, f] at h2 <;> simp at h2 <;> omega
  have p1 := ta.pub
  have p2 := tb.pub
  have q1 := ta.hash
  have q2 := tb.hash
  rcases ha with rfl | ⟨e, e2⟩ | ⟨e, e2⟩
  · rcases hb with rfl | ⟨f, f2⟩ | ⟨f, f2⟩
    · rfl
    · rw [f] at hk; cases hk
    · rw [f] at hk; cases hk
  · have f : b.kind = 1 := by omega
    have f2 : b.un = [] := by
      rcases hb with rfl | ⟨_, f2⟩ | ⟨f3, _⟩
      · rfl
      · exact f2
      · omega
    rw [nodeB_1 e, nodeB_1 f] at h
    simp only [List.append_assoc] at h
    have h1 := List.append_cancel_left h
    obtain ⟨g1, g2⟩ := List.append_inj h1 (by rw [be_length, be_length])
    obtain ⟨g3, g4⟩ := row_cut10 (by omega) (by omega) g2
    have g5 := row_same10 (by omega) (by omega) g4
    have n1 := ta.name
    have n2 := tb.name
    have g6 := be2_inj10 (by omega) (by omega) g1
    cases a; cases b
    simp only [Nod.mk.injEq]
    simp only at hk e2 f2 g3 g5 g6 n1 n2
    exact ⟨hk, by omega, g3, by rw [e2, f2], g5⟩
  · have f : b.kind = 2 := by omega
    have f2 : b.name = 0 := by
      rcases hb with rfl | ⟨f3, _⟩ | ⟨_, f2⟩
      · rfl
      · omega
      · exact f2
    rw [nodeB_2 e, nodeB_2 f] at h
    simp only [List.append_assoc] at h
    have h1 := List.append_cancel_left h
    obtain ⟨g3, g4⟩ := row_cut10 (by omega) (by omega) h1
    obtain ⟨g5, g6⟩ := row_cut10 (by omega) (by omega) g4
    have u1 := ta.unl
    have u2 := tb.unl
    have g7 := row_same10 (by rw [unB_length]; omega) (by rw [unB_length]; omega) g6
    have g8 := unB_inj10 _ _ ta.un tb.un g7
    cases a; cases b
    simp only [Nod.mk.injEq]
    simp only at hk e2 f2 g3 g5 g8
    exact ⟨hk, by rw [e2, f2], g3, g8, g5⟩
/-- What a digest is the digest of. -/
def tellT (t : List Nod) : Nat → Nat → List UInt8
  | 0, q => [1] ++ be 2 q ++ nodeB (ats t (nd 0 q))
  | j + 1, q => [2] ++ nodeB (ats t (nd (j + 1) q)) ++ rowB (digF t [] j (2 * q)) ++ rowB (digF t [] j (2 * q + 1))
theorem tellT_succ (t : List Nod) (j q : Nat) : tellT t (j + 1) q = [2] ++ nodeB (ats t (nd (j + 1) q)) ++ rowB (digF t [] j (2 * q)) ++ rowB (digF t [] j (2 * q + 1)) := rfl
theorem lessN_nil (n : Nod) : lessN n [] = n := by
  unfold lessN
  cases n
  simp
theorem digF_tell (t : List Nod) : ∀ j q, digF t [] j q = digest (tellT t j q)
  | 0, q => by
    unfold digF tellT
    rw [if_neg (by simp)]
  | j + 1, q => by
    unfold digF tellT
    rw [lessN_nil]
theorem tellT_len {t : List Nod} {K : Nat} (h : TidyT t K) (j q : Nat) : (tellT t j q).length ≤ 400 := by
  cases j with
  | zero =>
    have := (nodeB_len (h.node (nd 0 q))).1
    unfold tellT
    rw [List.length_append, List.length_append, be_length, List.length_cons, List.length_nil]
    omega
  | succ j =>
    have := (nodeB_len (h.node (nd (j + 1) q))).1
    have h1 := rowB_le (x := digF t [] j (2 * q)) (by rw [digF_len]; omega)
    have h2 := rowB_le (x := digF t [] j (2 * q + 1)) (by rw [digF_len]; omega)
    rw [digF_len] at h1 h2
    unfold tellT
    rw [List.length_append, List.length_append, List.length_append, List.length_cons, List.length_nil]
    omega
/-- A node with another Pub has other bytes. -/
theorem pub_apart {n : Nod} {p : List UInt8} (ho : OkN n) (ht : TidyN n) (hk : n.kind ≠ 0) (hp : p.length = n.pub.length) (hne : p ≠ n.pub) : nodeB (pubN n p) ≠ nodeB n ∧ (nodeB (pubN n p)).length = (nodeB n).length := by
  have t2 : TidyN (pubN n p) := ⟨ht.kind, ht.name, by show p.length ≤ 40; rw [hp]; exact ht.pub, ht.hash, ht.unl, ht.un⟩
  have o2 : OkN (pubN n p) := by
    rcases ho with e | e | e
    · rw [e] at hk; exact absurd rfl hk
    · exact .inr (.inl e)
    · exact .inr (.inr e)
  refine ⟨fun h => hne ?_, ?_⟩
  · have e := nodeB_inj o2 ho t2 ht h
    exact congrArg Nod.pub e
  · have q1 := ht.pub
    have hl : (rowB p).length = (rowB n.pub).length := by rw [row_len (by omega), row_len (by omega), hp]
    rcases ho with e | ⟨e, _⟩ | ⟨e, _⟩
    · rw [e] at hk; exact absurd rfl hk
    · rw [nodeB_1 e, nodeB_1 (n := pubN n p) e]
      simp only [List.length_append, be_length]
      show _ + (rowB p).length + _ = _
      rw [hl]; rfl
    · rw [nodeB_2 e, nodeB_2 (n := pubN n p) e]
      simp only [List.length_append]
      show _ + (rowB p).length + _ + _ = _
      rw [hl]; rfl
/-- What a tree's digests are digests of parts at a changed node ... -/
theorem told_first {t u : List Nod} {j q : Nat} (h1 : nodeB (ats u (nd j q)) ≠ nodeB (ats t (nd j q))) (h2 : (nodeB (ats u (nd j q))).length = (nodeB (ats t (nd j q))).length) : tellT t j q ≠ tellT u j q := by
  intro h
  refine h1 ?_
  cases j with
  | zero =>
    unfold tellT at h
    exact (List.append_cancel_left h).symm
  | succ j =>
    unfold tellT at h
    simp only [List.append_assoc] at h
    exact (List.append_inj (List.append_cancel_left h) h2.symm).1.symm
/-- ... and over a node where they part. -/
theorem told_next {t u : List Nod} {j q : Nat} (h1 : digF t [] j q ≠ digF u [] j q) (h2 : ats u (nd (j + 1) (q / 2)) = ats t (nd (j + 1) (q / 2))) : tellT t (j + 1) (q / 2) ≠ tellT u (j + 1) (q / 2) := by
  intro h
  rw [tellT_succ, tellT_succ, h2] at h
  simp only [List.append_assoc] at h
  have g := List.append_cancel_left (List.append_cancel_left h)
  obtain ⟨g1, g2⟩ := row_cut10 (by rw [digF_len]; omega) (by rw [digF_len]; omega) g
  have g3 := row_same10 (by rw [digF_len]; omega) (by rw [digF_len]; omega) g2
  rcases (show q = 2 * (q / 2) ∨ q = 2 * (q / 2) + 1 by omega) with e | e
  · rw [← e] at g1; exact h1 g1
  · rw [← e] at g3; exact h1 g3
/-- Along the way up from a changed node: where the digests of all nodes below part, what is told parts. -/
theorem told_way {t : List Nod} {K j q : Nat} {p : List UInt8} (hr : RightK t K) (hd : TidyT t K) (hj : j ≤ K) (hq : q < 2 ^ (K - j)) (hk : (ats t (nd j q)).kind ≠ 0) (hp : p.length = (ats t (nd j q)).pub.length) (hne : p ≠ (ats t (nd j q)).pub) (i : Nat) (hi : i ≤ K - j)
    (h : ∀ i', i' < i → digF t [] (j + i') (q / 2 ^ i') ≠ digF (t.set (nd j q) (pubN (ats t (nd j q)) p)) [] (j + i') (q / 2 ^ i')) :
    tellT t (j + i) (q / 2 ^ i) ≠ tellT (t.set (nd j q) (pubN (ats t (nd j q)) p)) (j + i) (q / 2 ^ i) := by
  have hx : nd j q < t.length := by rw [hr.len]; exact nd_lt hj hq
  have hA := ats_set t (nd j q) (pubN (ats t (nd j q)) p)
  obtain ⟨b1, b2⟩ := pub_apart (hr.okN (nd j q)) (hd.node (nd j q)) hk hp hne
  cases i with
  | zero =>
    simp only [Nat.pow_zero, Nat.div_one, Nat.add_zero]
    refine told_first ?_ ?_
    · rw [hA _ hx, if_pos rfl]; exact b1
    · rw [hA _ hx, if_pos rfl]; exact b2
  | succ i =>
    have e : q / 2 ^ (i + 1) = q / 2 ^ i / 2 := by rw [Nat.pow_succ, Nat.div_div_eq_div_mul]
    rw [e, show j + (i + 1) = (j + i) + 1 by omega]
    refine told_next (h i (by omega)) ?_
    rw [hA _ hx, if_neg fun e => by have := (nd_inj e).1; omega]
theorem xor_flip {l : List UInt8} {k : Nat} (b : UInt8) (hk : k < l.length) (hb : b ≠ 0) : l.set k (l.getD k 0 ^^^ b) ≠ l := by
  intro h
  have h1 := congrArg (fun m : List UInt8 => m[k]?) h
  simp only [List.getElem?_set_self hk, List.getElem?_eq_getElem hk, List.getD_eq_getElem?_getD, Option.getD_some, Option.some.injEq] at h1
  refine hb ?_
  have h2 := congrArg (fun x => l[k] ^^^ x) h1
  simpa [← UInt8.xor_assoc] using h2
end Go.Proofs.YtobldbodafaajaaGreatDoor
