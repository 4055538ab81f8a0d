/- HKDF's and PBKDF2's blocks in plain words: rows one behind the other, and their first bytes. -/
import Derived.Test.YtdcbljfacmidjaaGreatMacAll
import Derived.Test.YtdcbljfacmidjaaGreatBytAll
import Derived.Test.YtdcbljfacmidjaaGreatYield
import Derived.WalkMore
import Derived.Lib.ConvBytes
set_option linter.unusedVariables false
set_option linter.unusedSimpArgs false
namespace Go.Proofs.YtdcbljfacmidjaaGreat
open Go.RowKit

/-- The first N rows, one behind the other. -/
def catB (B : Nat → List UInt8) : Nat → List UInt8
  | 0 => []
  | i + 1 => catB B i ++ B i
theorem catB_length (B : Nat → List UInt8) (h : ∀ i, (B i).length = 32) : ∀ N, (catB B N).length = 32 * N
  | 0 => rfl
  | N + 1 => by rw [catB, List.length_append, catB_length B h N, h N]; omega
theorem catB_prefix (B : Nat → List UInt8) (i k : Nat) : ∃ r, catB B (i + k) = catB B i ++ r := by
  induction k with
  | zero => exact ⟨[], by simp⟩
  | succ k ih => obtain ⟨r, hr⟩ := ih; exact ⟨r ++ B (i + k), by rw [← Nat.add_assoc, catB, hr, List.append_assoc]⟩
/-- The first n bytes of blocks. -/
def firstB (B : Nat → List UInt8) (n : Nat) : List UInt8 := (catB B ((n + 31) / 32)).take n
theorem firstB_eq (B : Nat → List UInt8) (h : ∀ i, (B i).length = 32) (n N : Nat) (hn : n ≤ 32 * N) : firstB B n = (catB B N).take n := by
  obtain ⟨r, hr⟩ := catB_prefix B ((n + 31) / 32) (N - (n + 31) / 32)
  have hle : (n + 31) / 32 ≤ N := by omega
  rw [show (n + 31) / 32 + (N - (n + 31) / 32) = N by omega] at hr
  rw [hr, List.take_append_of_le_length (by rw [catB_length B h]; omega)]
  rfl
theorem firstB_length (B : Nat → List UInt8) (h : ∀ i, (B i).length = 32) (n : Nat) : (firstB B n).length = n := by
  unfold firstB
  rw [List.length_take, catB_length B h]
  omega
theorem firstB_take (B : Nat → List UInt8) (h : ∀ i, (B i).length = 32) (n m : Nat) (hnm : n ≤ m) : firstB B n = (firstB B m).take n := by
  rw [firstB_eq B h n ((m + 31) / 32) (by omega)]
  unfold firstB
  rw [List.take_take, Nat.min_eq_left hnm]
theorem firstB_here (B : Nat → List UInt8) (h : ∀ i, (B i).length = 32) (n i j : Nat) (hj : j < 32) (hn : 32 * i + (j + 1) = n) : catB B i ++ (B i).take (j + 1) = firstB B n := by
  have e : n - 32 * i = j + 1 := by omega
  have hl := catB_length B h i
  rw [firstB_eq B h n (i + 1) (by omega), catB, List.take_append, hl, e, List.take_of_length_le (l := catB B i) (by omega)]
theorem firstB_zero (B : Nat → List UInt8) : firstB B 0 = [] := rfl
theorem firstB_one (B : Nat → List UInt8) (h : ∀ i, (B i).length = 32) : firstB B 32 = B 0 := by
  rw [firstB_eq B h 32 1 (by omega), catB, catB, List.nil_append, List.take_of_length_le (by rw [h]; omega)]

theorem macB_length (k b : List UInt8) : (macB k b).length = 32 := digest_length _
theorem keyB_key (k : List UInt8) : keyB (keyB k) = keyB k := by
  have h := keyB_length k
  obtain ⟨K, hK⟩ : ∃ K, keyB k = K := ⟨_, rfl⟩
  rw [hK] at h ⊢
  unfold keyB blkB
  rw [if_neg (by omega), h]
  simp
theorem macB_key (k b : List UInt8) : macB (keyB k) b = macB k b := by unfold macB; rw [keyB_key]

/-- Expand's blocks: T1 is number 0. -/
def expT (k info : List UInt8) : Nat → List UInt8
  | 0 => macB k (info ++ be 1 1)
  | i + 1 => macB k (expT k info i ++ info ++ be 1 (i + 2))
theorem expT_length (k info : List UInt8) : ∀ i, (expT k info i).length = 32
  | 0 => macB_length _ _
  | _ + 1 => macB_length _ _
/-- The tag ahead of block number i. -/
def expP (k info : List UInt8) : Nat → List UInt8
  | 0 => []
  | i + 1 => expT k info i
theorem expT_step (k info : List UInt8) (i : Nat) : expT k info i = macB k (expP k info i ++ info ++ be 1 (i + 1)) := by
  cases i with
  | zero => simp [expT, expP]
  | succ i => rfl
theorem expP_length (k info : List UInt8) : ∀ i, (expP k info i).length ≤ 32
  | 0 => by simp [expP]
  | i + 1 => by rw [expP, expT_length]; omega
def expL (k info : List UInt8) (n : Nat) : List UInt8 := firstB (expT k info) n

/-- The tag behind j rounds more. -/
def tagN (k t : List UInt8) : Nat → List UInt8
  | 0 => t
  | j + 1 => macB k (tagN k t j)
def xorL (a b : List UInt8) : List UInt8 := List.zipWith (· ^^^ ·) a b
/-- The exclusive or of the tag and of j more. -/
def mixT (k t : List UInt8) : Nat → List UInt8
  | 0 => t
  | j + 1 => xorL (mixT k t j) (tagN k t (j + 1))
theorem tagN_length (k t : List UInt8) (h : t.length = 32) : ∀ j, (tagN k t j).length = 32
  | 0 => h
  | _ + 1 => macB_length _ _
theorem xorL_length (a b : List UInt8) (h : a.length = b.length) : (xorL a b).length = a.length := by unfold xorL; rw [List.length_zipWith]; omega
theorem mixT_length (k t : List UInt8) (h : t.length = 32) : ∀ j, (mixT k t j).length = 32
  | 0 => h
  | j + 1 => by rw [mixT, xorL_length _ _ (by rw [mixT_length k t h j, tagN_length k t h]), mixT_length k t h j]
theorem tagN_key (k t : List UInt8) : ∀ j, tagN (keyB k) t j = tagN k t j
  | 0 => rfl
  | j + 1 => by rw [tagN, tagN, tagN_key k t j, macB_key]
theorem mixT_key (k t : List UInt8) : ∀ j, mixT (keyB k) t j = mixT k t j
  | 0 => rfl
  | j + 1 => by rw [mixT, mixT, mixT_key k t j, tagN_key]
/-- Pass's blocks: U1 is number 0; r rounds. -/
def passU (k s : List UInt8) (r i : Nat) : List UInt8 := mixT k (macB k (s ++ be 4 (i + 1))) (r - 1)
theorem passU_length (k s : List UInt8) (r i : Nat) : (passU k s r i).length = 32 := mixT_length _ _ (macB_length _ _) _
def passL (k s : List UInt8) (r n : Nat) : List UInt8 := firstB (passU k s r) n
end Go.Proofs.YtdcbljfacmidjaaGreat

/- kdf.first: the first n bytes of blocks that an iterator hands. -/
set_option linter.unusedVariables false
set_option linter.unusedSimpArgs false
namespace Go.Proofs.YtdcbljfacmidjaaGreat
open Go.RowKit Go.Shelf

attribute [local go_sem] Oper.semAt_some

/-- The row that v holds lies in no block of Y. -/
def Off (Y : Nat → Prop) (v : Value) : Prop := ∀ g, v.ownBlock = some g → ¬ Y g
theorem Ow.step {e : TypeId} {Y : Nat → Prop} {A A' : World} {B : Nat} {v : Value} {l : List UInt8} (h : Ow e A B v l) (hs : Step Y A A') (ho : Off Y v) : Ow e A' B v l := by
  refine ⟨h.1, ?_⟩
  rcases h.2 with hn | ⟨g, cap, cur, rfl, hb, hg, rest⟩
  · exact .inl hn
  · exact .inr ⟨g, cap, cur, rfl, hb, (hs.block g (Array.getElem?_eq_some_iff.1 hg).1 (ho g rfl)).trans hg, rest⟩
theorem One.step {T : TypeId} {Y : Nat → Prop} {w w' : World} {p : Nat} {v : Value} (h : One T w p v) (k : Step Y w w') (hx : ¬ Y p) : One T w' p v := (k.block p h.lt hx).trans h
theorem One.held {T : TypeId} {Y : Nat → Prop} {w w' : World} {p : Nat} {v : Value} (h : One T w p v) (k : Held Y w w') (hx : Y p) : One T w' p v := (k.block p h.lt hx).trans h
theorem Ow.lt {e : TypeId} {A : World} {B : Nat} {v : Value} {l : List UInt8} (h : Ow e A B v l) : ∀ g, v.ownBlock = some g → g < A.heap.size := fun g hg => (World.ownsRow.lt h g hg).2
theorem Off.grew {Y Y' : Nat → Prop} {A B : World} {e : TypeId} {b : Nat} {v : Value} {l : List UInt8} (h : Off Y v) (ho : Ow e A b v l) (hg : Grew Y Y' A B) : Off Y' v := fun g e hy => by
  rcases hg g hy with h1 | h1
  · exact h g e h1
  · have := ho.lt g e; omega
theorem Rd.held {R : Nat → Prop} {A B : World} {v : Value} {l : List UInt8} (h : Rd A v l) (hs : Held R A B) (hx : ∀ b o n c, v = .slice (some ⟨b, o, none⟩) n c → R b) : Rd B v l := by
  obtain ⟨a, c, rfl, h1, h2, h3, h4⟩ := h
  refine ⟨a, c, rfl, h1, h2, h3, fun x hx' i hi => ?_⟩
  have hc := h4 x hx' i hi
  subst hx'
  obtain ⟨b, o, spot⟩ := x
  have hsp := World.cell?_spot (h4 _ rfl 0 (by omega))
  have hsp' : spot = none := by simpa [Addr.add] using hsp
  subst hsp'
  exact hs.cell hc (by
    have : ((⟨b, o, none⟩ : Addr).add i).block = b := by unfold Addr.add; split <;> rfl
    rw [this]
    exact hx b o _ c rfl)

theorem ownsRow_step {e : TypeId} {Y : Nat → Prop} {A A' : World} {b g n c k : Nat} {xs : List Value} (h : A.ownsRow b e 1 (.slice (some ⟨g, 0, none⟩) n c) k xs) (hs : Step Y A A') (ho : ¬ Y g) : A'.ownsRow b e 1 (.slice (some ⟨g, 0, none⟩) n c) k xs := by
  refine ⟨h.1, ?_⟩
  rcases h.2 with ⟨hn, _⟩ | ⟨g', cap, cur, e', hb, hg, rest⟩
  · cases hn
  · have e2 : g = g' := by simpa [Value.ownBlock] using congrArg Value.ownBlock e'
    subst e2
    exact .inr ⟨g, cap, cur, e', hb, (hs.block g (Array.getElem?_eq_some_iff.1 hg).1 ho).trans hg, rest⟩

theorem Ow.kp' {e : TypeId} {A A' : World} {b k : Nat} {v : Value} {xs : List Value} (h : A.ownsRow b e 1 v k xs) (hs : Kp A A') : A'.ownsRow b e 1 v k xs := by
  refine ⟨h.1, ?_⟩
  rcases h.2 with hn | ⟨g, cap, cur, rfl, hb, hg, rest⟩
  · exact .inl hn
  · exact .inr ⟨g, cap, cur, rfl, hb, (hs.block g (Array.getElem?_eq_some_iff.1 hg).1).trans hg, rest⟩
theorem cell_lit1 (w : World) (T : TypeId) (u : Value) : ∀ j v, [u][j]? = some v → (w.alloc (.cells #[u] T)).cell? ((⟨w.heap.size, 0, none⟩ : Addr).add j) = some v := by
  intro j v h
  cases j with
  | zero => simp at h; subst h; exact (One.new T w u).cell
  | succ j => simp at h
theorem grown_one {T : TypeId} {w w1 w2 : World} {p g : Nat} {v : Value} (k : Kp w w1) (hg : w1.grownBy w2 (some g)) (h : One T w p v) (hp : p ≠ g) : One T w2 p v :=
  (hg.block p (h.kp k).lt (fun e => hp (by cases e; rfl))).trans (h.kp k)

set_option maxRecDepth 100000 in
set_option maxHeartbeats 4000000 in
theorem first_any (n N : Nat) (B : Nat → List UInt8) (gf : Nat) (lb : Array Value) (R : Nat → Prop) (w : World) (hB : ∀ i, (B i).length = 32) (hn : n ≤ 32 * N) (hn2 : n ≤ 1000000)
    (eg : ∀ args w, (callFunc gf args).run Tryz.prog w = .ok (.enter gf args) w) (hR : ∀ k, R k → k < w.heap.size)
    (hit : Hands Tryz.prog gf lb (fun i v Y A => Rd A v (B i) ∧ ∀ b o n c, v = .slice (some ⟨b, o, none⟩) n c → Y b) N R w) :
    Calls Tryz.prog 79 #[.int .i64 n, .func (.func gf) #[] lb] w fun e w' => (∃ v, e = .returned v ∧ Ow 5 w' w.heap.size v (firstB B n)) ∧ Kp w w' := by
  have U := u8
  obtain ⟨i0, hi0, hz0, hz1, hz2⟩ := info_parts Tryz.info5
  by_cases h0 : n = 0
  · subst h0
    rw [firstB_zero]
    go_enter Tryz.func79, Tryz.ntmps79
    go_wp2
    go_step3
    go_wp2_with (at_make; refine wpList_make_own _ rfl _ _ 22 rfl w.heap.size 5 i0 (.int .u8 0) 1 Tryz.underlying22 hi0 hz0 hz1 _ _ _ 0 rfl rfl rfl (by omega) (by unfold maxLen; omega) (by simp) ?_; intro w1 ho1 hg1; have k1 := Below.grown (Below.refl _ _) hg1 (Nat.le_refl _) (by intro k e; cases e); have hnb := One.kp (One.new 3 w (.int .i64 0)) k1; have cn := hnb.cell; have cna : ∀ o, (w1.alloc o).cell? ⟨w.heap.size, 0, none⟩ = _ := (fun o => Kp.cell ((Kp.refl w1).alloc o) cn); have hs1 := k1.size; rw [World.size_alloc] at hs1)
    rw [Exit.noGoto_ret]
    go_ret
    refine ⟨⟨_, rfl, Ow.kp (l := []) (by rw [World.size_alloc] at ho1; exact ho1) ((Kp.refl _).alloc _)⟩, (((Kp.refl w).alloc _).trans k1).alloc _⟩
  · have hne : ¬ (n : Int) = 0 := by omega
    refine (callsIn_wide (n := 4)).1 ?_
    refine callsIn_of_wp_marks Tryz.func79 rfl trivial ?_ rfl
    refine wpIn_wide.2 ?_
    simp only [Tryz.ntmps79, List.append_toArray, List.size_toArray, List.length_nil, List.length_cons, Nat.reduceAdd, Nat.reduceSub, Array.replicate_succ, Array.replicate_zero, List.push_toArray, List.nil_append, List.cons_append]
    go_wp2
    go_step3
    go_wp2_with (at_make; refine wpList_make_own _ rfl _ _ 22 rfl w.heap.size 5 i0 (.int .u8 0) 1 Tryz.underlying22 hi0 hz0 hz1 _ _ _ n rfl rfl rfl (by rw [hz2]; omega) (by unfold maxLen; omega) (by simp) ?_; intro w1 ho1 hg1; have k1 := Below.grown (Below.refl _ _) hg1 (Nat.le_refl _) (by intro k e; cases e); have hnb := One.kp (One.new 3 w (.int .i64 n)) k1; have cn := hnb.cell; have cna : ∀ o, (w1.alloc o).cell? ⟨w.heap.size, 0, none⟩ = _ := (fun o => Kp.cell ((Kp.refl w1).alloc o) cn); have hs1 := k1.size; rw [World.size_alloc] at hs1)
    go_step3
    go_wp2
    rw [World.size_alloc] at ho1
    obtain ⟨W0, hW0⟩ : ∃ W0, w1.alloc (.cells #[.slice (some ⟨w.heap.size + 1, 0, none⟩) 0 n] 22) = W0 := ⟨_, rfl⟩
    have hs0 : W0.heap.size = w1.heap.size + 1 := by rw [← hW0]; simp
    have hb0 : One 22 W0 w1.heap.size (.slice (some ⟨w.heap.size + 1, 0, none⟩) 0 n) := by rw [← hW0]; exact One.new _ _ _
    have k0 : Kp w1 W0 := by rw [← hW0]; exact (Kp.refl _).alloc _
    have ho0 : W0.ownsRow w.heap.size 5 1 (.slice (some ⟨w.heap.size + 1, 0, none⟩) 0 n) 0 (Lib.byteCells []) := Ow.kp (l := []) ho1 k0
    have hn0 := hnb.kp k0
    have kw0 : Kp w W0 := (((Kp.refl w).alloc _).trans k1).trans k0
    have hg1lt : w.heap.size + 1 < w1.heap.size := (World.ownsRow.lt ho1 _ rfl).2
    rw [hW0]
    have HB := Lib.hid hB
    clear hW0 ho1 hnb cn cna hg1 k0 hB k1
    refine wp_range_hands (R := R) rfl eg kw0 hR hit rfl
      (fun i Y A => One 22 A w1.heap.size (.slice (some ⟨w.heap.size + 1, 0, none⟩) (32 * i) n) ∧ A.ownsRow w.heap.size 5 1 (.slice (some ⟨w.heap.size + 1, 0, none⟩) (32 * i) n) (32 * i) (Lib.byteCells (catB B i)) ∧ One 3 A w.heap.size (.int .i64 n) ∧ Kp w A ∧ 32 * i < n)
      (fun c i Y A => c = .exit 0 ∧ One 22 A w1.heap.size (.slice (some ⟨w.heap.size + 1, 0, none⟩) n n) ∧ A.ownsRow w.heap.size 5 1 (.slice (some ⟨w.heap.size + 1, 0, none⟩) n n) n (Lib.byteCells (firstB B n)) ∧ Kp w A)
      ?mI ?mIx ?TT ⟨hb0, ho0, hn0, kw0, by omega⟩
      (fun v a' _ => a' = { tmps := #[.int .i64 n, .func (.func gf) #[] lb, .pointer (some ⟨w.heap.size, 0, none⟩), undef, .slice none 0 0, .pointer (some ⟨w1.heap.size, 0, none⟩), v, undef, undef, .int .i64 n, .slice (some ⟨w.heap.size + 1, 0, none⟩) 0 n, .int .i64 n, .bool false, undef, .func (.func gf) #[] lb, v, undef, undef, undef, undef, undef, undef, undef, undef, undef, undef, undef, undef, undef, undef, undef, undef], defers := [] })
      (fun _ _ _ _ _ _ h _ _ => h) ?assign ?body ?done ?stop
    case mI =>
      rintro i Y Y' A A' ⟨h1, h2, h3, h4, h5⟩ hY hs hg
      have hn1 : ∀ k, Y k → k ≠ w1.heap.size ∧ k ≠ w.heap.size + 1 ∧ k ≠ w.heap.size := fun k hk => by have := hY k hk; omega
      exact ⟨h1.step hs (fun e => (hn1 _ e).1 rfl), ownsRow_step h2 hs (fun e => (hn1 _ e).2.1 rfl), h3.step hs (fun e => (hn1 _ e).2.2 rfl), Below.trans h4 (hs.below h4.size (fun k hk => by have := hY k hk; omega)), h5⟩
    case mIx =>
      rintro c i Y Y' A A' ⟨h0, h1, h2, h4⟩ hY hs hg
      have hn1 : ∀ k, Y k → k ≠ w1.heap.size ∧ k ≠ w.heap.size + 1 ∧ k ≠ w.heap.size := fun k hk => by have := hY k hk; omega
      exact ⟨h0, h1.step hs (fun e => (hn1 _ e).1 rfl), ownsRow_step h2 hs (fun e => (hn1 _ e).2.1 rfl), Below.trans h4 (hs.below h4.size (fun k hk => by have := hY k hk; omega))⟩
    case TT =>
      rintro i v Yi Y A A' l o ⟨hr, hv⟩ hyy _ _ hl hs
      exact ⟨hr.turn hl rfl hs, fun b o n c e => hyy _ (hv b o n c e)⟩
    case assign =>
      intro l i Y Yi v A K hI hT hK
      gi_wp2
      exact hK _ _ (Kp.refl _) rfl
    case body =>
      rintro l i Y v a' A hi ⟨h1, h2, h3, h4, h5⟩ hyb hRA ⟨hrd, hvy⟩ rfl
      clear hb0 ho0 hn0
      have hbl := HB.out i
      obtain ⟨av, cv, rfl, q1, q2⟩ := hrd.shape
      unfold maxLen at q2
      rw [hbl] at hvy q1
      gi_wp2
      gi_loopw [18] (fun p wr => ∃ j : Nat, j ≤ 32 ∧ p = .int .i64 j ∧ One 22 wr w1.heap.size (.slice (some ⟨w.heap.size + 1, 0, none⟩) (32 * i + j) n) ∧ wr.ownsRow w.heap.size 5 1 (.slice (some ⟨w.heap.size + 1, 0, none⟩) (32 * i + j) n) (32 * i + j) (Lib.byteCells (catB B i ++ (B i).take j)) ∧ One 3 wr w.heap.size (.int .i64 n) ∧ Kp w wr ∧ Held (fun k => Y k ∨ R k) A wr ∧ 32 * i + j < n) (fun p _ => 32 - (intOf p).toNat)
      case atStart => exact ⟨0, by omega, rfl, h1, by simpa using h2, h3, h4, Held.refl _ _, h5⟩
      case round =>
        clear h1 h2 h3 h4 h5
        obtain ⟨j, hj, rfl, h1, h2, h3, h4, hh, h5⟩ := hrel
        by_cases hlt : j < 32
        · obtain ⟨b, off, rfl, _, hcell⟩ := hrd.at j (by omega)
          have hc0 := hh.cell (hcell j (by omega)) (.inl (hvy b off _ _ rfl))
          have hji : (j : Int) < 32 := by omega
          have hsn := snoc_take (B i) j (by omega)
          have HH := Lib.hid (fun h => firstB_here B HB.out n i j hlt h)
          rw [hsn] at HH
          obtain ⟨K, hK⟩ : ∃ K, 32 * i + j = K := ⟨_, rfl⟩
          have HK := Lib.hid hK
          obtain ⟨L, hL⟩ : ∃ L, catB B i ++ (B i).take j = L := ⟨_, rfl⟩
          have HL : Hid (catB B i ++ (B i).take (j + 1) = L ++ [(B i).getD j 0]) := by show _ = _; rw [hsn, ← List.append_assoc, hL]
          rw [← List.append_assoc, hL] at HH
          have hg : w.heap.size + 1 < wr.heap.size := (World.ownsRow.lt h2 _ rfl).2
          rw [hK] at h1 h2 h5
          rw [hL] at h2
          generalize hx : (B i).getD j 0 = x at *
          have hno : ∀ k, Y k ∨ R k → k ≠ w1.heap.size ∧ k ≠ w.heap.size + 1 := fun k hk => by
            rcases hk with h | h
            · have := hyb k h; omega
            · have := hR k h; omega
          have HNO := Lib.hid hno
          have c1 := h1.cell
          have hne1 : ¬ w1.heap.size = w.heap.size := by omega
          have hne2 : ¬ w.heap.size = w1.heap.size := by omega
          have hjl : j < (B i).length := by omega
          clear hsn hK hL hcell hx hno hrd hvy hbl
          have hq : decide ((K : Int) + 1 = n) = decide (K + 1 = n) := by congr 1; exact propext ⟨fun h => by omega, fun h => by omega⟩
          have hq2 : ((K : Int) + 1 == (n : Int)) = decide (K + 1 = n) := by rw [← hq]; rfl
          clear hq
          have fin : ∀ w2 : World, (wr.alloc (.cells #[.int .u8 (x.toNat : Int)] 5)).grownBy w2 (some (w.heap.size + 1)) → w2.ownsRow w.heap.size 5 1 (.slice (some ⟨w.heap.size + 1, 0, none⟩) (K + 1) n) (K + 1) (Lib.byteCells L ++ [.int .u8 (x.toNat : Int)]) →
              One 22 w2 w1.heap.size (.slice (some ⟨w.heap.size + 1, 0, none⟩) K n) → One 3 w2 w.heap.size (.int .i64 n) → ∀ W, w2.setCell ⟨w1.heap.size, 0, none⟩ (.slice (some ⟨w.heap.size + 1, 0, none⟩) (K + 1) n) = W →
              One 22 W w1.heap.size (.slice (some ⟨w.heap.size + 1, 0, none⟩) (K + 1) n) ∧ W.ownsRow w.heap.size 5 1 (.slice (some ⟨w.heap.size + 1, 0, none⟩) (K + 1) n) (K + 1) (Lib.byteCells (L ++ [x])) ∧ One 3 W w.heap.size (.int .i64 n) ∧ Kp w W ∧ Held (fun k => Y k ∨ R k) A W := by
            intro w2 hg2 ho2 hb2 hn2 W hW
            subst hW
            have hgs : w1.heap.size ≠ w.heap.size + 1 := by omega
            refine ⟨hb2.set _, ?_, hn2.step ((Step.refl (fun k => k = w1.heap.size) w2).setCell _ _ (.inr rfl)) (fun e => hne2 e), Below.setCell (Below.grown (Below.trans h4 (((Kp.refl wr).alloc _).mono h4.size)) hg2 (by have := h4.size; simp; omega) (fun k e => by cases e; omega)) (by simp; omega) _, ?_⟩
            · rw [byteCells_append]
              exact ownsRow_step ho2 ((Step.refl (fun k => k = w1.heap.size) w2).setCell _ _ (.inr rfl)) (fun e => hgs e.symm)
            · refine hh.trans ⟨Nat.le_trans (by simp) (Nat.le_trans hg2.size (by simp)), fun k hk hr => ?_⟩
              obtain ⟨h1, h2⟩ := HNO.out k hr
              exact (Below.heap_setCell w2 _ _ k (fun e => h1 (by simpa using e))).trans ((hg2.block k (by simp; omega) (fun e => h2 (by cases e; rfl))).trans (Below.heap_alloc wr _ k hk))
          by_cases hend : K + 1 = n
          · rw [decide_eq_true hend] at hq2
            gi_wp2_with (gi_at_builtin; refine wpListIn_append_fits _ rfl _ _ 22 rfl w.heap.size 5 i0 1 U.ht hi0 hz1 (w.heap.size + 1) K n _ rfl (Ow.kp' h2 ((Kp.refl _).alloc _)) ⟨wr.heap.size, 0, none⟩ 1 1 [.int .u8 (x.toNat : Int)] rfl rfl (cell_lit1 wr _ _) (by intro u hu; simp at hu; subst hu; rfl) (by omega) ?_; intro w2 ho2 hg2; have hb2 := grown_one ((Kp.refl wr).alloc (.cells #[.int .u8 (x.toNat : Int)] 5)) hg2 h1 (by omega); have hn2' := grown_one ((Kp.refl wr).alloc (.cells #[.int .u8 (x.toNat : Int)] 5)) hg2 h3 (by omega); have cb2 := hb2.cell; have fb2 := hb2.frozen; have cn2 := hn2'.cell)
            obtain ⟨f1, f2, f3, f4, f5⟩ := fin w2 hg2 ho2 hb2 hn2' _ rfl
            rw [HH.out (by have := HK.out; omega)] at f2
            rw [hend] at f1 f2 f4 f5
            exact ⟨f5, .inr ⟨_, rfl, rfl, f1, f2, f4⟩⟩
          · rw [decide_eq_false hend] at hq2
            gi_wp2_with (gi_at_builtin; refine wpListIn_append_fits _ rfl _ _ 22 rfl w.heap.size 5 i0 1 U.ht hi0 hz1 (w.heap.size + 1) K n _ rfl (Ow.kp' h2 ((Kp.refl _).alloc _)) ⟨wr.heap.size, 0, none⟩ 1 1 [.int .u8 (x.toNat : Int)] rfl rfl (cell_lit1 wr _ _) (by intro u hu; simp at hu; subst hu; rfl) (by omega) ?_; intro w2 ho2 hg2; have hb2 := grown_one ((Kp.refl wr).alloc (.cells #[.int .u8 (x.toNat : Int)] 5)) hg2 h1 (by omega); have hn2' := grown_one ((Kp.refl wr).alloc (.cells #[.int .u8 (x.toNat : Int)] 5)) hg2 h3 (by omega); have cb2 := hb2.cell; have fb2 := hb2.frozen; have cn2 := hn2'.cell)
            obtain ⟨f1, f2, f3, f4, f5⟩ := fin w2 hg2 ho2 hb2 hn2' _ rfl
            go_roundw
            case rel => exact ⟨j + 1, by omega, by go_num, by rw [← Nat.add_assoc, HK.out]; exact f1, by rw [← Nat.add_assoc, HK.out, HL.out]; exact f2, f3, f4, f5, by have := HK.out; omega⟩
            case measure => simp [intOf]; omega
        · obtain rfl : j = 32 := by omega
          have hend : catB B i ++ (B i).take 32 = catB B (i + 1) := by rw [catB, List.take_of_length_le (by omega)]
          rw [hend] at h2
          gi_wp2
          exact .inl ⟨h1, h2, h5⟩
    case done =>
      rintro D Y W hD hYD hYb ⟨h1, h2, h3, h4, h5⟩ hd
      omega
    case stop =>
      rintro D c i Y W hD hYD hYb hi ⟨rfl, h1, h2, h4⟩ hd
      have c1 := h1.cell
      clear hb0 ho0 hn0
      go_wp2
      rw [Exit.noGoto_ret]
      have hfl := firstB_length B HB.out n
      have hst : Step (fun k => k = D) W (W.putObj D (.deferred none)) := (Step.refl _ W).putObj _ _ (.inr rfl)
      refine ⟨by simp, .inl ⟨_, _, rfl, run_takeDeferred hd, ?_⟩⟩
      refine ⟨_, results_tmp rfl _ _ _, ⟨_, rfl, ?_⟩, Below.trans h4 (hst.below h4.size (fun k hk => by omega))⟩
      have h3 := ownsRow_step h2 hst (fun e => by omega)
      unfold Ow
      rw [hfl]
      exact h3
end Go.Proofs.YtdcbljfacmidjaaGreat

/- kdf.places: the blocks' places, one by one, as numbers of w bytes. -/
set_option linter.unusedVariables false
set_option linter.unusedSimpArgs false
namespace Go.Proofs.YtdcbljfacmidjaaGreat
open Go.RowKit Go.Shelf

attribute [local go_sem] Oper.semAt_some

set_option maxHeartbeats 1000000 in
theorem places_any (k : Nat) (w : World) :
    Calls Tryz.prog 88 #[.int .i64 k] w fun e w' => e = .returned (.func (.func 96) #[] #[.pointer (some ⟨w.heap.size, 0, none⟩)]) ∧ w.alloc (.cells #[.int .i64 k] 3) = w' := by
  go_enter Tryz.func88, Tryz.ntmps88
  go_wp2
  go_ret
  exact ⟨rfl, rfl⟩

set_option maxRecDepth 100000 in
set_option maxHeartbeats 4000000 in
theorem places_hands (k N b : Nat) (w : World) (hk : 1 ≤ k ∧ k ≤ 6) (hN : 256 ^ k = N + 1) (hw : w.cell? ⟨b, 0, none⟩ = some (.int .i64 k)) :
    Hands Tryz.prog 96 #[.pointer (some ⟨b, 0, none⟩)] (fun i v _ A => Rd A v (be k (i + 1))) N (fun j => j = b) w := by
  intro l J Jx W hh hl1 hl2 hJ hJx hY h0
  have hbw := hh.cell hw rfl
  have HJ := Lib.hid hJ
  have HY := Lib.hid hY
  have hbb : b < w.heap.size := World.block_lt_of_cell? w _ hw
  have hbig : (N : Int) ≤ 281474976710656 := by
    have h2 : 256 ^ k ≤ 256 ^ 6 := Nat.pow_le_pow_right (by omega) hk.2
    have h3 : (256 : Nat) ^ 6 = 281474976710656 := by decide
    omega
  have HN : Hid (∀ i, i < N → numE ((i : Int) + 1) k = 0 ∧ numB ((i : Int) + 1) k = be k (i + 1)) := fun i hi => by
    obtain ⟨h1, h2⟩ := num_yes (n := (i : Int) + 1) (w := k) ⟨by omega, by omega, by omega, by
      have := (pow256 (i + 1) k).2 (by omega)
      simpa using this⟩
    refine ⟨h1, h2.trans ?_⟩
    congr 1
  have HE : Hid (numE ((N : Int) + 1) k = 1) := by
    refine (num_no (n := (N : Int) + 1) (w := k) (fun h => ?_)).1
    have := (pow256 (N + 1) k).1 (by simpa using h.2.2.2)
    omega
  have HH := Lib.hid (And.intro hw hbb)
  have HHeld := Lib.hid hh
  clear hJ hY hN hw
  refine (callsIn_wide (n := 5)).1 ?_
  refine callsIn_of_wp Tryz.func96 rfl trivial ?_ rfl
  simp only [Tryz.ntmps96, List.append_toArray, List.append_nil, List.size_toArray, List.length_cons, List.length_nil, Nat.reduceAdd, Nat.reduceSub, Array.replicate_succ, Array.replicate_zero, List.push_toArray, List.nil_append, List.cons_append]
  gi_wp2
  gi_loopw [3] (fun p wr => ∃ (i : Nat) (Y : Nat → Prop), i ≤ N ∧ p = .int .i64 ((i : Int) + 1) ∧ wr.cell? ⟨b, 0, none⟩ = some (.int .i64 k) ∧ Held (fun j => j = b) w wr ∧ J i Y wr ∧ (∀ j, Y j → W.heap.size ≤ j ∧ j < wr.heap.size) ∧ W.heap.size ≤ wr.heap.size) (fun p _ => N + 1 - (intOf p).toNat)
  case atStart => exact ⟨0, _, by omega, rfl, hbw, HHeld.out, h0, fun _ h => h.elim, Nat.le_refl _⟩
  case round =>
    clear hbw h0
    obtain ⟨i, Y, hi, rfl, hb, hhw, hj, hyb, hsz⟩ := hrel
    have hmx : Tryz.prog.follows .mixedOrders = true := by kernel_rfl
    have hls : Tryz.prog.follows .lateStores = true := by kernel_rfl
    by_cases hlt : i < N
    · obtain ⟨e1, e2⟩ := HN.out i hlt
      gi_wp2_with (refine ⟨trivial, ?_⟩; gi_at_call 43; refine (callsIn_wide.2 (num_any ((i : Int) + 1) k _ (by omega))).mono ?_; rintro e w1 ⟨v1, rfl, o1, k1⟩; rw [e2] at o1; have hj1 := HJ.out i Y Y wr w1 hj hyb (Step.of_kp k1) (fun _ h => .inl h); have hb1 := k1.cell hb; have hyb1 : ∀ j, Y j → W.heap.size ≤ j ∧ j < w1.heap.size := (fun j h => ⟨(hyb j h).1, Nat.lt_of_lt_of_le (hyb j h).2 k1.size⟩); have hw1 := hhw.trans (Held.of_kp k1); have hs1 := k1.size; obtain ⟨fn, tmps, assign, body, hy, hR⟩ := HY.out i Y w1 v1 4 hlt hj1 hyb1 hw1 o1.rd)
      clear hj hb hyb hhw o1
      refine hR.mono ?_
      rintro e w2 ⟨hh2, (⟨rfl, hj2⟩ | ⟨rfl, hx2⟩)⟩
      · have hb2 := hh2.cell hb1 (.inr rfl)
        clear hy hR hb1
        gi_wp2
        go_roundw
        case rel => exact ⟨i + 1, Y, by omega, by go_num, hb2, hw1.trans (hh2.mono (fun _ h => .inr h)), hj2, fun j h => ⟨(hyb1 j h).1, Nat.lt_of_lt_of_le (hyb1 j h).2 hh2.size⟩, by have := hh2.size; omega⟩
        case measure => simp [intOf]; omega
      · clear hy hR hb1
        gi_wp2
        refine bodyPost_ret (results_none rfl _ _ _) rfl ?_
        exact ⟨⟨_, rfl⟩, Y, fun j h => ⟨(hyb1 j h).1, Nat.lt_of_lt_of_le (hyb1 j h).2 hh2.size⟩, .inr ⟨i, hlt, hx2⟩⟩
    · obtain rfl : i = N := by omega
      have e1 := HE.out
      gi_wp2_with (refine ⟨trivial, ?_⟩; gi_at_call 43; refine (callsIn_wide.2 (num_any ((i : Int) + 1) k _ (by omega))).mono ?_; rintro e w1 ⟨v1, rfl, o1, k1⟩)
      refine ⟨fun _ h => (by cases h), ?_⟩
      gi_wp2
      refine bodyPost_ret (results_none rfl _ _ _) rfl ?_
      exact ⟨⟨_, rfl⟩, Y, fun j h => ⟨(hyb j h).1, Nat.lt_of_lt_of_le (hyb j h).2 k1.size⟩, .inl (HJ.out i Y Y wr w1 hj hyb (Step.of_kp k1) (fun _ h => .inl h))⟩
end Go.Proofs.YtdcbljfacmidjaaGreat

/- kdf.expanded: a key's blocks, one by one. -/
set_option linter.unusedVariables false
set_option linter.unusedSimpArgs false
namespace Go.Proofs.YtdcbljfacmidjaaGreat
open Go.RowKit Go.Shelf

attribute [local go_sem] Oper.semAt_some

/-- The slice v lies in blocks of which p holds. -/
def In (p : Nat → Prop) (v : Value) : Prop := ∀ b o n c, v = .slice (some ⟨b, o, none⟩) n c → p b
theorem Rd.step {Y : Nat → Prop} {A B : World} {v : Value} {l : List UInt8} (h : Rd A v l) (hs : Step Y A B) (hx : In (fun b => ¬ Y b) v) : Rd B v l :=
  h.held (R := fun b => ¬ Y b) ⟨hs.size, fun k hk hr => hs.block k hk hr⟩ hx
theorem Rd.heldAll {w B : World} {v : Value} {l : List UInt8} (h : Rd w v l) (hs : Held (fun j => j < w.heap.size) w B) : Rd B v l := by
  obtain ⟨a, c, rfl, h1, h2, h3, h4⟩ := h
  exact ⟨a, c, rfl, h1, h2, h3, fun x hx i hi => hs.cell (h4 x hx i hi) (World.block_lt_of_cell? w _ (h4 x hx i hi))⟩
theorem One.heldAll {T : TypeId} {w B : World} {p : Nat} {v : Value} (h : One T w p v) (hs : Held (fun j => j < w.heap.size) w B) : One T B p v := h.held hs h.lt
theorem RL.lit2 {w : World} {T : TypeId} {v1 v2 : Value} {l1 l2 : List UInt8} (h1 : Rd w v1 l1) (h2 : Rd w v2 l2) : RL (w.alloc (.cells #[v1, v2] T)) (.slice (some ⟨w.heap.size, 0, none⟩) 2 2) [l1, l2] :=
  RL.cons (us := [v2]) (ls := [l2]) (World.ownsRow_lit w #[v1, v2] 2 (Nat.le_refl _) (by unfold maxLen; omega) rfl) (h1.kp ((Kp.refl _).alloc _)) rfl (fun i hi => by
    have : i = 0 := by simpa using hi
    subst this
    exact h2.kp ((Kp.refl _).alloc _))
theorem RL.lit3 {w : World} {T : TypeId} {v1 v2 v3 : Value} {l1 l2 l3 : List UInt8} (h1 : Rd w v1 l1) (h2 : Rd w v2 l2) (h3 : Rd w v3 l3) : RL (w.alloc (.cells #[v1, v2, v3] T)) (.slice (some ⟨w.heap.size, 0, none⟩) 3 3) [l1, l2, l3] :=
  RL.cons (us := [v2, v3]) (ls := [l2, l3]) (World.ownsRow_lit w #[v1, v2, v3] 3 (Nat.le_refl _) (by unfold maxLen; omega) rfl) (h1.kp ((Kp.refl _).alloc _)) rfl (fun i hi => by
    have hi2 : i < 2 := by simpa using hi
    match i, hi2 with
    | 0, _ => exact h2.kp ((Kp.refl _).alloc _)
    | 1, _ => exact h3.kp ((Kp.refl _).alloc _))

set_option maxHeartbeats 1000000 in
theorem expanded_any (vk vi : Value) (k info : List UInt8) (w : World) (hk : Rd w vk k) (hkl : k.length ≤ 2000) (hv : ∃ a n c, vi = .slice a n c) :
    Calls Tryz.prog 80 #[vk, vi] w fun e w' => (∃ gK, e = .returned (.func (.func 87) #[] #[.pointer (some ⟨w.heap.size, 0, none⟩), .pointer (some ⟨w.heap.size + 1, 0, none⟩)]) ∧
      One 22 w' w.heap.size (.slice (some ⟨gK, 0, none⟩) 64 64) ∧ One 22 w' (w.heap.size + 1) vi ∧ By 5 w' gK (keyB k)) ∧ Kp w w' := by
  obtain ⟨ai, ni, ci, rfl⟩ := hv
  obtain ⟨ak, ck, rfl, _, _⟩ := hk.shape
  have HA : Hid (One 22 (w.alloc (.cells #[.slice ak k.length ck] 22)) w.heap.size (.slice ak k.length ck)) := One.new _ _ _
  have HB : Hid (One 22 ((w.alloc (.cells #[.slice ak k.length ck] 22)).alloc (.cells #[.slice ai ni ci] 22)) (w.heap.size + 1) (.slice ai ni ci)) := by
    have := One.new 22 (w.alloc (.cells #[.slice ak k.length ck] 22)) (.slice ai ni ci)
    rwa [World.size_alloc] at this
  go_enter Tryz.func80, Tryz.ntmps80
  go_wp2_with (go_at_call 60; refine (mac_key _ k _ (hk.kp (((Kp.refl w).alloc _).alloc _)) hkl).mono ?_; rintro e w1 ⟨⟨gK, rfl, b1, hge⟩, k1⟩; have h1 := (HA.out.kp ((Kp.refl _).alloc _)).kp k1; have h2 := HB.out.kp k1; have c1 := h1.cell; have f1 := h1.frozen)
  go_ret
  rw [World.size_alloc, World.size_alloc] at hge
  have hst : Step (fun k => k = w.heap.size) w1 (w1.setCell ⟨w.heap.size, 0, none⟩ (.slice (some ⟨gK, 0, none⟩) 64 64)) := (Step.refl _ w1).setCell _ _ (.inr rfl)
  exact ⟨⟨gK, rfl, h1.set _, h2.step hst (by omega), (hst.block gK b1.lt (by omega)).trans b1⟩, Below.setCell (Below.trans (((Kp.refl w).alloc _).alloc _) (k1.mono (by simp; omega))) (by simp) _⟩

set_option maxRecDepth 100000 in
set_option maxHeartbeats 4000000 in
theorem expanded_hands (b1 b2 gK : Nat) (vi : Value) (k info : List UInt8) (w : World) (h1 : One 22 w b1 (.slice (some ⟨gK, 0, none⟩) 64 64)) (h2 : One 22 w b2 vi) (h3 : By 5 w gK (keyB k)) (h4 : Rd w vi info)
    (hkl : k.length ≤ 2000) (hil : info.length ≤ 1800) :
    Hands Tryz.prog 87 #[.pointer (some ⟨b1, 0, none⟩), .pointer (some ⟨b2, 0, none⟩)] (fun i v Y A => Rd A v (expT k info i) ∧ In Y v) 255 (fun j => j < w.heap.size) w := by
  intro l J Jx W hh hl1 hl2 hJ hJx hY h0
  have HJ := Lib.hid hJ
  have HJx := Lib.hid hJx
  have HY := Lib.hid hY
  have HK := Lib.hid (keyB_length k)
  have HP := Lib.hid (expP_length k info)
  have HS : Hid (∀ i, macB (keyB k) (expP k info i ++ info ++ be 1 (i + 1)) = expT k info i) := fun i => by rw [macB_key, expT_step]
  have HE : Hid (∀ i, expP k info (i + 1) = expT k info i) := fun _ => rfl
  have HB := Lib.hid (fun i => be_length 1 (i + 1))
  have hw := hh.size
  obtain ⟨ai, ci, rfl, qi1, qi2⟩ := h4.shape
  have HI : Hid (One 22 w b2 (.slice ai info.length ci) ∧ Rd w (.slice ai info.length ci) info ∧ One 22 w b1 (.slice (some ⟨gK, 0, none⟩) 64 64) ∧ Rd w (.slice (some ⟨gK, 0, none⟩) 64 64) (keyB k)) :=
    ⟨h2, h4, h1, h3.rdAll (by rw [HK.out]) (Nat.le_refl _) (by unfold maxLen; omega)⟩
  clear hJ hJx hY h1 h2 h3 h4
  refine (callsIn_wide (n := 4)).1 ?_
  refine callsIn_of_wp_marks Tryz.func87 rfl trivial ?_ rfl
  refine wpIn_wide.2 ?_
  simp only [Tryz.ntmps87, List.append_toArray, List.append_nil, List.size_toArray, List.length_cons, List.length_nil, Nat.reduceAdd, Nat.reduceSub, Array.replicate_succ, Array.replicate_zero, List.push_toArray, List.nil_append, List.cons_append]
  go_wp2_with (go_at_call 88; refine (places_any 1 _).mono ?_; rintro e w1 ⟨rfl, hw1⟩)
  have hs1 : w1.heap.size = W.heap.size + 3 := by rw [← hw1]; simp
  have e3 : One 108 w1 W.heap.size (.func (.yield l) #[] #[]) := by rw [← hw1]; exact ((One.new _ _ _).kp ((Kp.refl _).alloc _)).kp ((Kp.refl _).alloc _)
  have e4 : One 22 w1 (W.heap.size + 1) (.slice none 0 0) := by
    have := (One.new 22 (W.alloc (.cells #[.func (.yield l) #[] #[]] 108)) (.slice none 0 0)).kp ((Kp.refl _).alloc (.cells #[.int .i64 ((1 : Nat) : Int)] 3))
    rw [World.size_alloc, hw1] at this
    exact this
  have e5 : One 3 w1 (W.heap.size + 1 + 1) (.int .i64 ((1 : Nat) : Int)) := by
    have := One.new 3 ((W.alloc (.cells #[.func (.yield l) #[] #[]] 108)).alloc (.cells #[.slice none 0 0] 22)) (.int .i64 ((1 : Nat) : Int))
    rw [World.size_alloc, World.size_alloc, hw1] at this
    exact this
  have kW : Kp W w1 := by rw [← hw1]; exact (((Kp.refl W).alloc _).alloc _).alloc _
  clear hw1
  refine wp_range_hands (R := fun j => j = W.heap.size + 1 + 1) rfl (enters_of Tryz.func96 (by kernel_rfl) rfl) (Kp.refl _) (fun j hj => by omega) (places_hands 1 255 (W.heap.size + 1 + 1) w1 (by omega) rfl e5.cell) rfl
    (fun i Y A => ∃ Yo, J i Yo A ∧ (∀ j, Y j → Yo j) ∧ (∀ j, Yo j → W.heap.size ≤ j ∧ j < A.heap.size) ∧ Yo W.heap.size ∧ Yo (W.heap.size + 1) ∧ Yo (W.heap.size + 1 + 1) ∧ One 108 A W.heap.size (.func (.yield l) #[] #[]) ∧
      (∃ v, One 22 A (W.heap.size + 1) v ∧ Rd A v (expP k info i) ∧ In (fun b => Yo b ∧ ¬ Y b) v) ∧ Held (fun j => j < w.heap.size) w A)
    (fun c i Y A => c = .ret ∧ ∃ Yo, Jx i Yo A ∧ (∀ j, Y j → Yo j) ∧ (∀ j, Yo j → W.heap.size ≤ j ∧ j < A.heap.size) ∧ Yo W.heap.size)
    ?mI ?mIx ?TT ⟨fun j => W.heap.size ≤ j ∧ j < w1.heap.size, HJ.out 0 _ _ W w1 h0 (fun _ h => h.elim) (Step.of_kp kW) (fun j hj => .inr hj), fun _ h => h.elim, fun _ h => h, by omega, by omega, by omega, e3, ⟨_, e4, rd_nil _, fun b o n c e => by cases e⟩, hh.trans (Held.of_kp kW)⟩
    (fun v a' _ => a' = { tmps := #[.func (.yield l) #[] #[], .pointer (some ⟨b1, 0, none⟩), .pointer (some ⟨b2, 0, none⟩), .pointer (some ⟨W.heap.size, 0, none⟩), .pointer (some ⟨W.heap.size + 1, 0, none⟩), v, .func (.func 96) #[] #[.pointer (some ⟨W.heap.size + 1 + 1, 0, none⟩)], v, undef, undef, undef, undef, undef, undef, undef, undef, undef, undef], defers := [] })
    (fun _ _ _ _ _ _ h _ _ => h) ?assign ?body ?done ?stop
  case mI =>
    rintro i Y Y' A B ⟨Yo, hj, hyo, hyb, y3, y4, y5, o3, ⟨v, o4, hr, hv⟩, hR⟩ hY hs hg
    have hsz := hs.size
    have hn : ∀ j, Y j → W.heap.size + 3 ≤ j := fun j h => by have := (hY j h).1; omega
    refine ⟨fun j => Yo j ∨ Y' j, HJ.out i Yo _ A B hj hyb (hs.mono hyo) (fun j h => h.elim .inl (fun h => (hg j h).imp (hyo j) id)), fun j h => .inr h, fun j h => ?_, .inl y3, .inl y4, .inl y5, o3.step hs (fun e => by have := hn _ e; omega), ⟨v, o4.step hs (fun e => by have := hn _ e; omega), hr.step hs (fun b o n c e => (hv b o n c e).2), fun b o n c e => ⟨.inl (hv b o n c e).1, fun h => ?_⟩⟩, hR.trans (Held.of_step hs (fun j hj h => by have := hn j h; omega))⟩
    · rcases h with h | h
      · have := hyb j h; omega
      · rcases hg j h with h | h
        · have := hyb j (hyo j h); omega
        · have := (hyb _ y3).2; omega
    · rcases hg b h with h | h
      · exact (hv b o n c e).2 h
      · have := (hyb b (hv b o n c e).1).2; omega
  case mIx =>
    rintro c i Y Y' A B ⟨hc, Yo, hj, hyo, hyb, y3⟩ hY hs hg
    have hsz := hs.size
    refine ⟨hc, fun j => Yo j ∨ Y' j, HJx.out i Yo _ A B hj hyb (hs.mono hyo) (fun j h => h.elim .inl (fun h => (hg j h).imp (hyo j) id)), fun j h => .inr h, fun j h => ?_, .inl y3⟩
    rcases h with h | h
    · have := hyb j h; omega
    · rcases hg j h with h | h
      · have := hyb j (hyo j h); omega
      · have := (hyb _ y3).2; omega
  case TT =>
    rintro i v Yi Y A A' l' o hr _ _ _ hl hs
    exact hr.turn hl rfl hs
  case assign =>
    intro l' i Y Yi v A K hI hT hK
    gi_wp2
    exact hK _ _ (Kp.refl _) rfl
  case body =>
    rintro l' i Y v a' A hi ⟨Yo, hj, hyo, hyb, y3, y4, y5, o3, ⟨vb, o4, hr, hvb⟩, hR⟩ hYb hRA hT rfl
    obtain ⟨i1, i2, i3, i4⟩ := HI.out
    obtain ⟨av, cv, rfl, _, _⟩ := hT.shape
    obtain ⟨ab, cb, rfl, _, _⟩ := hr.shape
    obtain ⟨nv, hnv⟩ : ∃ nv, (be 1 (i + 1)).length = nv := ⟨_, rfl⟩
    obtain ⟨nb, hnb⟩ : ∃ nb, (expP k info i).length = nb := ⟨_, rfl⟩
    rw [hnv] at hT ⊢
    rw [hnb] at hr o4 hvb
    clear hnv hnb
    have p1 := (i3.heldAll hR).cell
    have p2 := (i1.heldAll hR).cell
    have p3 := o3.cell
    have p4 := o4.cell
    have f4 := o4.frozen
    have hfl : ([expP k info i, info, be 1 (i + 1)] : List (List UInt8)).flatten = expP k info i ++ info ++ be 1 (i + 1) := by simp
    have hT1 := HS.out i
    have q0 := HP.out i
    have q3 := HB.out i
    have hfll : ([expP k info i, info, be 1 (i + 1)] : List (List UInt8)).flatten.length ≤ 1900 := by rw [hfl, List.length_append, List.length_append, q3]; omega
    have hmac := Lib.hid (fun T => mac_all (.slice (some ⟨gK, 0, none⟩) 64 64) (.slice (some ⟨A.heap.size, 0, none⟩) 3 3) (keyB k) [expP k info i, info, be 1 (i + 1)] (A.alloc (.cells #[.slice ab nb cb, .slice ai info.length ci, .slice av nv cv] T)) ((i4.heldAll hR).kp ((Kp.refl _).alloc _)) (RL.lit3 hr (i2.heldAll hR) hT) (by rw [HK.out]; omega) hfll (by simp))
    rw [hfl, hT1] at hmac
    have HYat : ∀ (T : TypeId) (w3 : World) (a c : _), Ow 5 w3 (A.heap.size + 1) (.slice a 32 c) (expT k info i) → Kp (A.alloc (.cells #[.slice ab nb cb, .slice ai info.length ci, .slice av nv cv] T)) w3 → ∀ m, ∃ Y2 : Nat → Prop, (∀ j, Yo j → Y2 j) ∧ (∀ j, Y2 j → W.heap.size ≤ j ∧ j < w3.heap.size) ∧ In (fun b => Y2 b ∧ ¬ Y b) (.slice a 32 c) ∧ Rd (w3.setCell ⟨W.heap.size + 1, 0, none⟩ (.slice a 32 c)) (.slice a 32 c) (expT k info i) ∧
        Step Yo A (w3.setCell ⟨W.heap.size + 1, 0, none⟩ (.slice a 32 c)) ∧
        YieldAt Fence.wide m Tryz.prog l #[.slice a 32 c] (w3.setCell ⟨W.heap.size + 1, 0, none⟩ (.slice a 32 c)) fun e B => Held (fun j => Y2 j ∨ j < w.heap.size) (w3.setCell ⟨W.heap.size + 1, 0, none⟩ (.slice a 32 c)) B ∧ ((e = .returned (.bool true) ∧ J (i + 1) Y2 B) ∨ (e = .returned (.bool false) ∧ Jx i Y2 B)) := by
      intro T w3 a c ow kp m
      have hkA : Kp A w3 := ((Kp.refl A).alloc _).trans kp
      have hzA := kp.size
      rw [World.size_alloc] at hzA
      have hst : Step Yo A (w3.setCell ⟨W.heap.size + 1, 0, none⟩ (.slice a 32 c)) := (Step.of_kp hkA).setCell _ _ (.inr y4)
      have hin : In (fun b => (Yo b ∨ (A.heap.size ≤ b ∧ b < w3.heap.size)) ∧ ¬ Y b) (.slice a 32 c) := fun b o n c' e => by
        have e2 : (Value.slice a 32 c).ownBlock = some b := by rw [e]; rfl
        have h1 := ow.own_ge b e2
        have h2 := ow.lt b e2
        exact ⟨.inr (by omega), fun h => by have := (hyb b (hyo b h)).2; omega⟩
      have hrd : Rd (w3.setCell ⟨W.heap.size + 1, 0, none⟩ (.slice a 32 c)) (.slice a 32 c) (expT k info i) :=
        ow.rd.step (Y := fun b => b = W.heap.size + 1) ((Step.refl _ _).setCell _ _ (.inr rfl)) (fun b o n c' e h => by
          have e2 : (Value.slice a 32 c).ownBlock = some b := by rw [e]; rfl
          have h1 := ow.own_ge b e2
          have h2 := (hyb _ y4).2
          omega)
      have hbd : ∀ j, (Yo j ∨ (A.heap.size ≤ j ∧ j < w3.heap.size)) → W.heap.size ≤ j ∧ j < w3.heap.size := fun j h => by
        have := (hyb _ y4).2
        rcases h with h | h
        · have := hyb j h; omega
        · omega
      refine ⟨fun j => Yo j ∨ (A.heap.size ≤ j ∧ j < w3.heap.size), fun j h => .inl h, hbd, hin, hrd, hst, ?_⟩
      refine HY.out i _ _ _ m hi (HJ.out i Yo _ A _ hj hyb hst (fun j h => h.imp id (fun h => by simpa using h))) (fun j h => by simpa using hbd j h) (hR.trans (Held.of_step hst (fun j hj h => by have := hyb j h; omega))) ⟨hrd, fun b o n c' e => (hin b o n c' e).1⟩
    have HYA := Lib.hid HYat
    clear hT1 q0 q3 hfl hfll hT HYat
    gi_wp2_with (refine ⟨trivial, ?_⟩; gi_at_call 34; refine (CallsIn.inRound l' (callsIn_wide.2 (hmac.out _))).mono ?_; rintro e w3 ⟨⟨a3, c3, rfl, ow⟩, k3⟩; rw [World.size_alloc] at ow; have d4 := ((o4.kp ((Kp.refl A).alloc _)).kp k3); have d3 := ((o3.kp ((Kp.refl A).alloc _)).kp k3).cell; have d4c := d4.cell; have d4f := d4.frozen; obtain ⟨Y2, g1, g2, g3, g4, g5, fn, tmps, assign, body, hy, hRd⟩ := HYA.out _ w3 a3 c3 ow k3 3)
    have hz3 := k3.size
    rw [World.size_alloc] at hz3
    have hy4 := (hyb _ y4).2
    have hkA : Kp A w3 := ((Kp.refl A).alloc _).trans k3
    obtain ⟨W4, hW4⟩ : ∃ W4, w3.setCell ⟨W.heap.size + 1, 0, none⟩ (.slice a3 32 c3) = W4 := ⟨_, rfl⟩
    have o44 : One 22 W4 (W.heap.size + 1) (.slice a3 32 c3) := by rw [← hW4]; exact d4.set _
    have hA4 : ∀ j, j < A.heap.size → j ≠ W.heap.size + 1 → W4.heap[j]? = A.heap[j]? := fun j h1 h2 => by
      rw [← hW4]
      exact (Below.heap_setCell w3 _ _ j (by simpa using h2)).trans (hkA.block j h1)
    have o34 : One 108 W4 W.heap.size (.func (.yield l) #[] #[]) := (hA4 _ o3.lt (by omega)).trans o3
    have hz4 : W4.heap.size = w3.heap.size := by rw [← hW4]; simp
    rw [hW4] at hRd g4 g5 ⊢
    have hNY : ∀ j, Y j → W.heap.size + 3 ≤ j := fun j h => by have := (hYb j h).1; omega
    have hEE := HE.out i
    clear d4c d4f p1 p2 p3 p4 f4 hy d3 d4 hmac HYA hr hvb o4 o3 ow
    refine RoundIn.mono (F := Fence.wide.inRound l') hRd ?_
    rintro e B ⟨hB, (⟨rfl, hj2⟩ | ⟨rfl, hx2⟩)⟩
    · have hzB := hB.size
      have hfin : Held (fun j => Y j ∨ j = W.heap.size + 1 + 1) A B := ⟨by omega, fun j hj h => (hB.block j (by omega) (.inl (h.elim (fun h => g1 j (hyo j h)) (fun h => g1 j (h ▸ y5))))).trans (hA4 j hj (h.elim (fun h => by have := hNY j h; omega) (fun h => by omega)))⟩
      have hR2 : Held (fun j => j < w.heap.size) w B := (hR.trans (Held.of_step g5 (fun j hj h => by have := hyb j h; omega))).trans (hB.mono (fun j h => .inr h))
      have o4B := o44.held hB (.inl (g1 _ y4))
      have o3B := o34.held hB (.inl (g1 _ y3))
      have hrB : Rd B (.slice a3 32 c3) (expT k info i) := g4.held hB (fun b o n c e => .inl (g3 b o n c e).1)
      clear hB g4 g5 hA4 hRd
      gi_wp2
      exact .inl ⟨Y2, hj2, fun j h => g1 j (hyo j h), fun j h => by have := g2 j h; omega, g1 _ y3, g1 _ y4, g1 _ y5, _, o4B, hrB, g3⟩
    · have hzB := hB.size
      have hfin : Held (fun j => Y j ∨ j = W.heap.size + 1 + 1) A B := ⟨by omega, fun j hj h => (hB.block j (by omega) (.inl (h.elim (fun h => g1 j (hyo j h)) (fun h => g1 j (h ▸ y5))))).trans (hA4 j hj (h.elim (fun h => by have := hNY j h; omega) (fun h => by omega)))⟩
      clear hB g4 g5 hA4 hRd
      gi_wp2
      exact ⟨hfin, .inr ⟨_, rfl, rfl, Y2, hx2, fun j h => g1 j (hyo j h), fun j h => by have := g2 j h; omega, g1 _ y3⟩⟩
  case done =>
    rintro D Y W2 hD hYD hYb ⟨Yo, hj, hyo, hyb, y3, y4, y5, _⟩ hd
    go_wp2
    refine ⟨by simp, .inl ⟨_, _, rfl, run_takeDeferred hd, ?_⟩⟩
    refine ⟨_, results_none rfl _ _ _, ⟨_, rfl⟩, Yo, fun j h => by have := hyb j h; rw [size_putObj]; omega, .inl (HJ.out _ Yo Yo W2 _ hj hyb ((Step.refl _ _).putObj _ _ (.inr (hyo _ hYD))) (fun _ h => .inl h))⟩
  case stop =>
    rintro D c i Y W2 hD hYD hYb hi ⟨rfl, Yo, hx, hyo, hyb, y3⟩ hd
    go_wp2
    refine ⟨by simp, .inl ⟨_, _, rfl, run_takeDeferred hd, ?_⟩⟩
    refine ⟨_, results_none rfl _ _ _, ⟨_, rfl⟩, Yo, fun j h => by have := hyb j h; rw [size_putObj]; omega, .inr ⟨i, hi, HJx.out _ Yo Yo W2 _ hx hyb ((Step.refl _ _).putObj _ _ (.inr (hyo _ hYD))) (fun _ h => .inl h)⟩⟩
end Go.Proofs.YtdcbljfacmidjaaGreat

/- kdf.mixed: the exclusive or of as many tags as there are rounds. -/
set_option linter.unusedVariables false
set_option linter.unusedSimpArgs false
namespace Go.Proofs.YtdcbljfacmidjaaGreat
open Go.RowKit

theorem ow_set {e : TypeId} {w : World} {B g c : Nat} {l : List UInt8} (h : Ow e w B (.slice (some ⟨g, 0, none⟩) l.length c) l) (i : Nat) (hi : i < l.length) (x y : UInt8) (hy : l.getD i 0 = y) :
    w.cell? ⟨g, i, none⟩ = some (.int .u8 (y.toNat : Int)) ∧ w.frozen? ⟨g, i, none⟩ = false ∧ Ow e (w.setCell ⟨g, i, none⟩ (.int .u8 (x.toNat : Int))) B (.slice (some ⟨g, 0, none⟩) l.length c) (l.set i x) ∧ B ≤ g ∧ g < w.heap.size := by
  subst hy
  refine ⟨?_, h.frozenAt i, ?_, (World.ownsRow.lt h g rfl).1, (World.ownsRow.lt h g rfl).2⟩
  · rw [World.ownsRow.cellAt h i (by omega), byteCells_get l i hi, List.getD_eq_getElem?_getD, List.getElem?_eq_getElem hi]
    rfl
  · have h2 := (World.ownsRow.stored h i (.int .u8 (x.toNat : Int))).1
    unfold Ow
    rw [List.length_set]
    have e : Lib.byteCells (l.set i x) = (Lib.byteCells l).set i (.int .u8 (x.toNat : Int)) := by simp [Lib.byteCells, List.map_set]
    rw [e]
    simpa using h2
theorem ow_some {e : TypeId} {w : World} {B : Nat} {v : Value} {l : List UInt8} (h : Ow e w B v l) (hp : 0 < l.length) : ∃ g c, v = .slice (some ⟨g, 0, none⟩) l.length c ∧ B ≤ g ∧ g < w.heap.size ∧ l.length ≤ c ∧ c ≤ maxLen := by
  rcases h.shape with ⟨_, h0⟩ | h
  · rw [h0] at hp; simp at hp
  · exact h
theorem xorL_get (M T : List UInt8) (k : Nat) (hk : k < M.length) (h : M.length = T.length) : (xorL M T)[k]? = some (M.getD k 0 ^^^ T.getD k 0) := by
  unfold xorL
  simp [List.getElem?_zipWith, List.getD_eq_getElem?_getD, List.getElem?_eq_getElem hk, List.getElem?_eq_getElem (show k < T.length by omega)]
theorem mixB_at (A B : List UInt8) (k : Nat) (h : A.length = B.length) (hk : k < A.length) : (mixB A B k).getD k 0 = A.getD k 0 := by
  unfold mixB
  rw [List.getD_eq_getElem?_getD, List.getElem?_append_right (by simp; omega), List.length_take, Nat.min_eq_left (by omega), Nat.sub_self, List.getElem?_drop, List.getD_eq_getElem?_getD]
  rfl
theorem mixB_zero (A B : List UInt8) : mixB A B 0 = A := by simp [mixB]

end Go.Proofs.YtdcbljfacmidjaaGreat

/- A region that draws its order, in a round of a loop: what only looks at cells that nobody changes may be taken first. Nothing of a dump. -/
set_option linter.unusedVariables false
set_option linter.unusedSimpArgs false
namespace Go.Proofs.YtdcbljfacmidjaaGreat
open Go.RowKit

section
variable {F : Fence} {n : Nat} {P : Program} {ops : Array Oper} {Q : Exit → Act → World → Prop} {md : Region.Mode} {S : World → Prop}

/-- In state a, in every world of which S holds, o yields v, and does nothing else. -/
structure Calm (P : Program) (ops : Array Oper) (S : World → Prop) (o : Oper) (v : Value) (a : Act) : Prop where
  nodefer : ∀ c, o.op ≠ .defer c
  about : ∀ w, o.about P w a.eval = none
  yields : (Region.wanted o (yielded ops a.tmps) = true ∧ ∀ w, S w → (execOp a.eval o).run P w = .ok (.value v) w) ∨ (Region.wanted o (yielded ops a.tmps) = false ∧ v = undef)

/-- No operation of the region defers. -/
def noDefer (ops : Array Oper) : Bool := ops.all fun o => match o.op with | .defer _ => false | _ => true
theorem noDefer_spec (h : noDefer ops = true) {j : Nat} {o : Oper} (hj : ops[j]? = some o) : ∀ c, o.op ≠ .defer c := fun c e => by
  have := Array.all_eq_true_iff_forall_mem.1 h o (Array.mem_of_getElem? hj)
  rw [e] at this
  cases this

theorem Calm.put {o oj : Oper} {v : Value} {a : Act} (h : Calm P ops S o v a) (hs : ∀ cs b, o.op ≠ .select cs b) (u : Value) (hap : ∀ d, oj.dst = some d → d ∉ o.looksAt ops) : Calm P ops S o v (a.put oj.dst u) := by
  obtain ⟨h1, h2, h3⟩ := h
  refine ⟨h1, fun w => (about_put o w a oj.dst u hap).trans (h2 w), ?_⟩
  rw [wanted_put o a oj.dst u hap, execOp_put o hs a oj.dst u hap]
  exact h3
theorem Calm.run {o : Oper} {i : Nat} {v : Value} {a : Act} {w : World} {K : Act → World → Prop} (h : Calm P ops S o v a) (hi : ops[i]? = some o) (hS : S w) (hK : K (a.put o.dst v) w) : wpOpIn F n P ops Q i K a w := by
  have hab : ∀ f, o.about P w a.eval = some f → F.fn f := fun f hf => by rw [h.about w] at hf; cases hf
  unfold wpOpIn
  simp only [hi]
  rcases h.yields with ⟨hw, hv⟩ | ⟨hw, rfl⟩
  · rw [if_pos hw]
    exact ⟨hab, by rw [Oper.semAt_plain F _ _ h.nodefer, hv w hS]; exact hK⟩
  · rw [if_neg (by rw [hw]; decide)]
    exact ⟨hab, hK⟩

/-- Another operation, apart from a calm one: it may as well be run ahead of it. -/
theorem Calm.later {j : Nat} {o oj : Oper} {v : Value} {a : Act} {w : World} {K : Act → World → Prop} (h : Calm P ops S o v a) (hnd : noDefer ops = true) (hns : Region.noSelect ops = true) {i : Nat} (hi : ops[i]? = some o) (hj : ops[j]? = some oj)
    (hap : o.apart ops oj = true) (hQ : ∀ c a w, Q (.panic c) (a.put o.dst v) w → Q (.panic c) a w) (hh : wpOpIn F n P ops Q j K (a.put o.dst v) w) :
    wpOpIn F n P ops Q j (fun a' w' => Calm P ops S o v a' ∧ K (a'.put o.dst v) w') a w := by
  obtain ⟨p1, p2, p3⟩ := Oper.apart_spec hap
  have hsj := fun cs b => Region.noSelect_spec hns j oj cs b hj
  have hsi := fun cs b => Region.noSelect_spec hns i o cs b hi
  have hd := noDefer_spec hnd hj
  -- behind oj, whatever it puts
  have back : ∀ u w', K ((a.put o.dst v).put oj.dst u) w' → Calm P ops S o v (a.put oj.dst u) ∧ K ((a.put oj.dst u).put o.dst v) w' := fun u w' hk => ⟨h.put hsi u p3, by rw [← Act.put_comm a v u p2]; exact hk⟩
  unfold wpOpIn at *
  simp only [hj] at *
  rw [wanted_put oj a o.dst v p1, about_put oj w a o.dst v p1] at hh
  by_cases hw : Region.wanted oj (yielded ops a.tmps) = true
  · rw [if_pos hw] at hh ⊢
    unfold Oper.wpIn at *
    rw [Oper.semAt_plain F _ _ hd, about_put oj w a o.dst v p1, execOp_put oj hsj a o.dst v p1] at hh
    refine ⟨hh.1, ?_⟩
    rw [Oper.semAt_plain F _ _ hd]
    have h2 := hh.2
    obtain ⟨r, hr⟩ : ∃ r, (execOp a.eval oj).run P w = r := ⟨_, rfl⟩
    rw [hr] at h2 ⊢
    match r, h2 with
    | .ok (.value u) w', h2 => exact back u w' h2
    | .ok .skip w', h2 => exact back undef w' h2
    | .ok (.defer d) w', h2 =>
      refine ⟨Calm.put (a := { a with defers := d :: a.defers }) (oj := oj) ⟨h.nodefer, h.about, h.yields⟩ hsi undef p3, ?_⟩
      rw [← Act.put_comm _ v undef p2, ← Act.put_defers]
      exact h2
    | .ok (.enter f args) w', h2 =>
      refine ⟨h2.1, h2.2.mono fun e w'' he => ?_⟩
      match e, he with
      | .returned u, he => exact back u w'' he
      | .panicked c, he => exact hQ _ _ _ he
      | .outgrown, he => exact he
    | .ok (.row row args) w', h2 => exact ⟨h2.1, h2.2.mono fun u w'' he => back u w'' he⟩
    | .ok (.round l f tmps assign body) w', h2 =>
      refine ⟨h2.1, h2.2.mono fun e w'' he => ?_⟩
      match e, he with
      | .returned u, he => exact back u w'' he
      | .panicked c, he => exact hQ _ _ _ he
      | .outgrown, he => exact he
    | .halt (.panic u) w', h2 => exact hQ _ _ _ h2
  · rw [if_neg hw] at hh ⊢
    exact ⟨hh.1, back undef w hh.2⟩

/-- Whatever order is drawn; behind each operation S holds. -/
def AnyIf (F : Fence) (n : Nat) (P : Program) (md : Region.Mode) (ops : Array Oper) (Q : Exit → Act → World → Prop) (S : World → Prop) : Nat → Array Bool → Act → World → Prop
  | 0, listed, a, w => Region.ready md ops listed = [] ∧ Q .normal a w
  | fuel + 1, listed, a, w =>
    (Region.ready md ops listed = [] → Q .normal a w) ∧
    ∀ i ∈ Region.ready md ops listed, wpOpIn F n P ops Q i (fun a' w' => S w' ∧ AnyIf F n P md ops Q S fuel (listed.setIfInBounds i true) a' w') a w
theorem AnyIf.any : ∀ (fuel : Nat) (listed : Array Bool) (a : Act) (w : World), AnyIf F n P md ops Q S fuel listed a w → wpAnyIn F n P md ops Q fuel listed a w
  | 0, _, _, _, h => h
  | fuel + 1, _, _, _, h => ⟨h.1, fun i hi => wpOpIn_mono (fun a' w' h' => AnyIf.any fuel _ a' w' h'.2) (h.2 i hi)⟩

theorem AnyIf.first {i : Nat} {o : Oper} {v : Value} (hnd : noDefer ops = true) (hns : Region.noSelect ops = true) (hi : ops[i]? = some o) (hQ : ∀ c a w, Q (.panic c) (a.put o.dst v) w → Q (.panic c) a w) :
    ∀ (fuel : Nat) (listed : Array Bool) (a : Act) (w : World),
      (∀ j oj, ops[j]? = some oj → j ≠ i → listed.getD j true = false → (∀ e ∈ oj.after, Region.binds md e = true → e.on ≠ i) → o.apart ops oj = true) →
      i ∈ Region.ready md ops listed → Calm P ops S o v a → S w → AnyIf F n P md ops Q S fuel (listed.setIfInBounds i true) (a.put o.dst v) w → AnyIf F n P md ops Q S (fuel + 1) listed a w
  | fuel, listed, a, w, hfree, hr, hy, hS, H => by
    refine ⟨fun h => (by rw [h] at hr; cases hr), fun j hj => ?_⟩
    by_cases hji : j = i
    · subst hji
      exact hy.run hi hS ⟨hS, H⟩
    · have hj' := ready_mono (i := i) hj hji
      match fuel, H with
      | 0, H => rw [H.1] at hj'; cases hj'
      | fuel + 1, H =>
        obtain ⟨hjun, oj, hoj, hall⟩ := mem_ready.1 hj
        -- j doesn't wait for i: what it waits for has come up
        have hnot : ∀ e ∈ oj.after, Region.binds md e = true → e.on ≠ i := fun e he hb heq => by
          have h1 := hall e he hb
          have h0 := (mem_ready.1 hr).1
          rw [heq] at h1
          rcases Nat.lt_or_ge i listed.size with h' | h'
          · simp [h'] at h0 h1; rw [h0] at h1; cases h1
          · simp [Array.getElem?_eq_none h'] at h1
        refine wpOpIn_mono ?_ (hy.later hnd hns hi hoj (hfree j oj hoj hji hjun hnot) hQ (H.2 j hj'))
        rintro a' w' ⟨hy', hS', H'⟩
        refine ⟨hS', AnyIf.first hnd hns hi hQ fuel (listed.setIfInBounds j true) a' w' (fun k ok hk hki hun hno => ?_) (ready_mono hr (Ne.symm hji)) hy' hS' ?_⟩
        · refine hfree k ok hk hki ?_ hno
          by_cases hjk : j = k
          · subst hjk; exact hjun
          · rwa [getD_set_ne true hjk] at hun
        · rw [Array.setIfInBounds_comm _ _ hji]
          exact H'

/-- The beginning. -/
theorem region_if {id : Nat} {a : Act} {w : World} (hm : P.follows .mixedOrders = true) (h : AnyIf F n P .any ops Q S ops.size (Array.replicate ops.size false) a w.drew) : (Code.region id ops true).wpIn F n P Q a w :=
  wpIn_region_any hm (AnyIf.any _ _ _ _ h)
/-- A calm one is taken first. -/
theorem AnyIf.take (i : Nat) (v : Value) {o : Oper} {fuel : Nat} {listed : Array Bool} {a : Act} {w : World} (hi : ops[i]? = some o) (hnd : noDefer ops = true) (hns : Region.noSelect ops = true) (hf : Region.free md ops listed i = true)
    (hr : (Region.ready md ops listed).contains i = true) (hQ : ∀ c a w, Q (.panic c) (a.put o.dst v) w → Q (.panic c) a w) (hS : S w) (hy : Calm P ops S o v a)
    (h : AnyIf F n P md ops Q S fuel (listed.setIfInBounds i true) (a.put o.dst v) w) : AnyIf F n P md ops Q S (fuel + 1) listed a w :=
  AnyIf.first hnd hns hi hQ fuel listed a w (Region.free_spec hi hf) (by simpa using hr) hy hS h
/-- One alone can come up. -/
theorem AnyIf.one (i : Nat) {o : Oper} {fuel : Nat} {listed : Array Bool} {a : Act} {w : World} (hi : ops[i]? = some o) (hr : Region.ready md ops listed = [i])
    (h : ∀ K : Act → World → Prop, (∀ a' w', S w' → AnyIf F n P md ops Q S fuel (listed.setIfInBounds i true) a' w' → K a' w') → if Region.wanted o (yielded ops a.tmps) = true then Oper.wpIn F n P o a w K Q else (∀ f, o.about P w a.eval = some f → F.fn f) ∧ K (a.put o.dst undef) w) :
    AnyIf F n P md ops Q S (fuel + 1) listed a w := by
  refine ⟨fun h0 => (by rw [h0] at hr; cases hr), fun j hj => ?_⟩
  rw [hr] at hj
  obtain rfl : j = i := by simpa using hj
  exact wpOpIn_step hi (fun K' hK => h K' (fun a' w' hs hw => hK a' w' ⟨hs, hw⟩))
/-- All have come up. -/
theorem AnyIf.done {fuel : Nat} {listed : Array Bool} {a : Act} {w : World} (hr : Region.ready md ops listed = []) (h : Q .normal a w) : AnyIf F n P md ops Q S fuel listed a w := by
  cases fuel with
  | zero => exact ⟨hr, h⟩
  | succ fuel => exact ⟨fun _ => h, fun i hi => by rw [hr] at hi; cases hi⟩
end
end Go.Proofs.YtdcbljfacmidjaaGreat

/- kdf.passed: a password's blocks, one by one. -/
set_option linter.unusedVariables false
set_option linter.unusedSimpArgs false
namespace Go.Proofs.YtdcbljfacmidjaaGreat
open Go.RowKit Go.Shelf

attribute [local go_sem] Oper.semAt_some

end Go.Proofs.YtdcbljfacmidjaaGreat

/- kdf.Extract, Expand, Label, Derive, Pass. -/
set_option linter.unusedVariables false
set_option linter.unusedSimpArgs false
namespace Go.Proofs.YtdcbljfacmidjaaGreat
open Go.RowKit

def expE (n : Int) : Int := if 0 ≤ n ∧ n ≤ 8160 then 0 else 1
def expR (k info : List UInt8) (n : Int) : List UInt8 := if 0 ≤ n ∧ n ≤ 8160 then expL k info n.toNat else []
theorem exp_yes {n : Nat} (k info : List UInt8) (h : (n : Int) ≤ 8160) : expE n = 0 ∧ expR k info n = expL k info n := by
  have : 0 ≤ (n : Int) ∧ (n : Int) ≤ 8160 := by omega
  simp [expE, expR, this]
theorem exp_no {n : Int} (k info : List UInt8) (h : n < 0 ∨ 8160 < n) : expE n = 1 ∧ expR k info n = [] := by
  have : ¬ (0 ≤ n ∧ n ≤ 8160) := by omega
  simp [expE, expR, this]
def passE (r n : Int) : Int := if 1 ≤ r ∧ r ≤ 1048576 ∧ 0 ≤ n ∧ n ≤ 1024 then 0 else 1
def passR (k s : List UInt8) (r n : Int) : List UInt8 := if 1 ≤ r ∧ r ≤ 1048576 ∧ 0 ≤ n ∧ n ≤ 1024 then passL k s r.toNat n.toNat else []
theorem pass_yes {r n : Nat} (k s : List UInt8) (h1 : 1 ≤ r) (h2 : (r : Int) ≤ 1048576) (h : (n : Int) ≤ 1024) : passE r n = 0 ∧ passR k s r n = passL k s r n := by
  have : 1 ≤ (r : Int) ∧ (r : Int) ≤ 1048576 ∧ 0 ≤ (n : Int) ∧ (n : Int) ≤ 1024 := by omega
  unfold passE passR
  rw [if_pos this, if_pos this]
  simp
theorem pass_no {r n : Int} (k s : List UInt8) (h : r < 1 ∨ 1048576 < r ∨ n < 0 ∨ 1024 < n) : passE r n = 1 ∧ passR k s r n = [] := by
  have : ¬ (1 ≤ r ∧ r ≤ 1048576 ∧ 0 ≤ n ∧ n ≤ 1024) := by omega
  simp [passE, passR, this]

theorem first_exp (n : Nat) (vk vi : Value) (k info : List UInt8) (w0 w : World) (b1 b2 gK : Nat) (hk : Kp w0 w) (h1 : One 22 w b1 (.slice (some ⟨gK, 0, none⟩) 64 64)) (h2 : One 22 w b2 vi) (h3 : By 5 w gK (keyB k)) (h4 : Rd w vi info)
    (hkl : k.length ≤ 2000) (hil : info.length ≤ 1800) (hn : n ≤ 8160) :
    Calls Tryz.prog 79 #[.int .i64 n, .func (.func 87) #[] #[.pointer (some ⟨b1, 0, none⟩), .pointer (some ⟨b2, 0, none⟩)]] w fun e w' => (∃ v, e = .returned v ∧ Ow 5 w' w.heap.size v (expL k info n)) ∧ Kp w w' :=
  first_any n 255 (expT k info) _ _ (fun j => j < w.heap.size) w (expT_length k info) (by omega) (by omega) (enters_of Tryz.func87 (by kernel_rfl) rfl) (fun _ h => h) (expanded_hands b1 b2 gK vi k info w h1 h2 h3 h4 hkl hil)

set_option maxHeartbeats 1000000 in
theorem expand_any (vk vi : Value) (k info : List UInt8) (n : Int) (w : World) (hk : Rd w vk k) (hi : Rd w vi info) (hkl : k.length ≤ 2000) (hil : info.length ≤ 1800) :
    Calls Tryz.prog 57 #[vk, vi, .int .i64 n] w fun e w' => (∃ v, e = .returned (.tuple #[v, .int .i64 (expE n)]) ∧ Ow 5 w' w.heap.size v (expR k info n)) ∧ Kp w w' := by
  obtain ⟨ai, ci, rfl, _, _⟩ := hi.shape
  by_cases h1 : n < 0
  · have hno := exp_no k info (.inl h1)
    rw [hno.1, hno.2]
    have d1 : decide (n < 0) = true := by simp [h1]
    go_enter Tryz.func57, Tryz.ntmps57
    go_wp2_with fail
    go_ret2
    exact ⟨⟨_, rfl, Ow.nil _ _ _⟩, Kp.refl _⟩
  · by_cases h2 : 8160 < n
    · have hno := exp_no k info (.inr h2)
      rw [hno.1, hno.2]
      have d1 : decide (n < 0) = false := by simp; omega
      have d2 : decide (8160 < n) = true := by simp [h2]
      go_enter Tryz.func57, Tryz.ntmps57
      go_wp2_with fail
      go_ret2
      exact ⟨⟨_, rfl, Ow.nil _ _ _⟩, Kp.refl _⟩
    · obtain ⟨n, rfl⟩ := Int.eq_ofNat_of_zero_le (show 0 ≤ n by omega)
      have hyes := exp_yes k info (show (n : Int) ≤ 8160 by omega)
      rw [hyes.1, hyes.2]
      have d1 : decide ((n : Int) < 0) = false := by simp
      have d2 : decide (8160 < (n : Int)) = false := by simp; omega
      clear hyes
      go_enter Tryz.func57, Tryz.ntmps57
      go_wp2_with fail
      refine (expanded_any vk _ k info _ hk hkl ⟨_, _, _, rfl⟩).mono ?_
      rintro e w1 ⟨⟨gK, rfl, o1, o2, o3⟩, k1⟩
      go_wp2_with fail
      refine (first_exp n vk _ k info w w1 _ _ gK k1 o1 o2 o3 (hi.kp k1) hkl hil (by omega)).mono ?_
      rintro e w2 ⟨⟨v, rfl, o⟩, k2⟩
      go_wp2_with fail
      go_ret2
      exact ⟨⟨_, rfl, o.mono k1.size⟩, k1.trans k2⟩

end Go.Proofs.YtdcbljfacmidjaaGreat

/- kdf.labelled, Label, Derive. -/
set_option linter.unusedVariables false
set_option linter.unusedSimpArgs false
namespace Go.Proofs.YtdcbljfacmidjaaGreat
open Go.RowKit

/-- 'MLS 1.0 ' -/
def mlsB : List UInt8 := [77, 76, 83, 32, 49, 46, 48, 32]
/-- What Label expands. -/
def labI (label ctx : List UInt8) (n : Nat) : List UInt8 := be 2 n ++ rowB (mlsB ++ label) ++ rowB ctx
def labR (k label ctx : List UInt8) (n : Int) : List UInt8 := expR k (labI label ctx n.toNat) n

theorem labI_length (l ctx : List UInt8) (n : Nat) (hl : l.length ≤ 300) (hc : ctx.length ≤ 1400) : (labI l ctx n).length ≤ 1800 := by
  have h1 := row_len (x := mlsB ++ l) (by rw [List.length_append]; simp [mlsB]; omega)
  have h2 := row_len (x := ctx) (by omega)
  have h3 := lenBytes_le (mlsB ++ l).length
  have h4 := lenBytes_le ctx.length
  have h5 : mlsB.length = 8 := rfl
  have h6 : (mlsB ++ l).length = 8 + l.length := by rw [List.length_append, h5]
  unfold labI
  rw [List.length_append, List.length_append, be_length, h1, h2]
  omega
theorem kp_bytesWorld (w : World) (e : TypeId) (s : ByteArray) : Kp w (Lib.bytesWorld w e s) :=
  ⟨rfl, rfl, rfl, by rw [Lib.bytesWorld_size]; omega, fun k hk => Lib.bytesWorld_at_old w e s k hk⟩
theorem rd_bytesWorld (w : World) (e : TypeId) (s : ByteArray) (h : s.size ≤ 1000000) : Rd (Lib.bytesWorld w e s) (.slice (some ⟨w.heap.size, 0, none⟩) s.size (grownCap w s.size 0 e)) s.data.toList := by
  have hl : s.data.toList.length = s.size := rfl
  refine ⟨_, _, by rw [hl], by rw [hl]; exact grownCap_ge w _ _ _, grownCap_le_maxLen w _ _ _ (by unfold maxLen; omega), fun h => (by cases h), fun x hx i hi => ?_⟩
  cases hx
  have e1 : (⟨w.heap.size, 0, none⟩ : Addr).add i = ⟨w.heap.size, i, none⟩ := by unfold Addr.add; split <;> simp_all
  rw [e1, Lib.bytesWorld_cell w e s i (by omega), List.getD_eq_getElem?_getD, List.getElem?_eq_getElem hi]
  rfl
theorem RL.lits4 {w : World} {T : TypeId} {v1 v2 v3 v4 : Value} {l1 l2 l3 l4 : List UInt8} (h1 : Rd w v1 l1) (h2 : Rd w v2 l2) (h3 : Rd w v3 l3) (h4 : Rd w v4 l4) : RL (w.alloc (.cells #[v1, v2, v3, v4] T)) (.slice (some ⟨w.heap.size, 0, none⟩) 4 4) [l1, l2, l3, l4] :=
  RL.cons (us := [v2, v3, v4]) (ls := [l2, l3, l4]) (World.ownsRow_lit w #[v1, v2, v3, v4] 4 (Nat.le_refl _) (by unfold maxLen; omega) rfl) (h1.kp ((Kp.refl _).alloc _)) rfl (fun i hi => by
    have hi2 : i < 3 := by simpa using hi
    match i, hi2 with
    | 0, _ => exact h2.kp ((Kp.refl _).alloc _)
    | 1, _ => exact h3.kp ((Kp.refl _).alloc _)
    | 2, _ => exact h4.kp ((Kp.refl _).alloc _))

theorem Rd.sl {w : World} {v : Value} {l : List UInt8} (h : Rd w v l) : ∃ a n c, v = .slice a n c := by
  obtain ⟨a, c, e, _⟩ := h.shape
  exact ⟨_, _, _, e⟩
set_option maxHeartbeats 1000000 in
theorem labelled_yes (s : ByteArray) (vc : Value) (ctx : List UInt8) (n : Nat) (w : World) (hc : Rd w vc ctx) (hs : s.size ≤ 300) (hcl : ctx.length ≤ 1400) (hn : (n : Int) ≤ 65535) :
    Calls Tryz.prog 56 #[.string s, vc, .int .i64 n] w fun e w' => (∃ v, e = .returned (.tuple #[v, .int .i64 0]) ∧ Ow 5 w' w.heap.size v (labI s.data.toList ctx n)) ∧ Kp w w' := by
  obtain ⟨ai, ci, rfl, _, _⟩ := hc.shape
  have hnum := Lib.hid (fun W => num_any n 2 W (by omega))
  have hok : numOk (n : Int) 2 := ⟨by omega, by omega, by omega, by have : (256 : Int) ^ (2 : Int).toNat = 65536 := by decide
                                                                    omega⟩
  have e1 := num_yes hok
  have e1b : numB (n : Int) 2 = be 2 n := by rw [e1.2]; rfl
  have hrow := Lib.hid (fun W hW => row_any (.slice ai ctx.length ci) ctx W hW)
  have e2 := (row_ok (x := ctx) (by omega)).1
  have hsl : s.data.toList.length = s.size := rfl
  have e3 := row_ok (x := mlsB ++ s.data.toList) (by rw [List.length_append, hsl]; simp [mlsB]; omega)
  have e3l : lenE ((8 : Int) + s.size) = 0 := by unfold lenE; rw [if_neg (by omega)]
  have e3b : lenB ((8 : Int) + s.size) ++ (mlsB ++ s.data.toList) = rowB (mlsB ++ s.data.toList) := by
    rw [e3.2, List.length_append, hsl]
    unfold lenB
    rw [if_pos e3l]
    congr 2
  have hlen := Lib.hid (fun W => len_any ((8 : Int) + s.size) W)
  rw [e1.1, e1b] at hnum
  rw [e2] at hrow
  rw [e3l] at hlen
  have hcv := fun W (S : ByteArray) => Lib.run_convert_string_bytes (P := Tryz.prog) W 9 22 5 S Tryz.underlying9 Tryz.underlying22 Tryz.underlying5
  have hs8 : (s.size : Int) ≤ 300 := by omega
  have HO := Lib.hid (And.intro e3b hs)
  clear hok e1 e1b e2 e3 e3l e3b hs hn
  go_enter Tryz.func56, Tryz.ntmps56
  go_wp2_with (first | (go_at_call 43; refine (hnum.out _).mono ?_; rintro e w1 ⟨v1, rfl, o1, k1⟩; obtain ⟨a1, n1, c1, rfl⟩ := o1.rd.sl) | (go_at_call 39; refine (hrow.out _ (hc.kp k1)).mono ?_; rintro e w2 ⟨v2, rfl, o2, k2⟩; obtain ⟨a2, n2, c2, rfl⟩ := o2.rd.sl) | (go_at_call 33; refine (hlen.out _).mono ?_; rintro e w3 ⟨v3, rfl, o3, k3⟩; obtain ⟨a3, n3, c3, rfl⟩ := o3.rd.sl))
  have kb := kp_bytesWorld w3 5 (⟨#[77, 76, 83, 32, 49, 46, 48, 32]⟩ ++ s)
  have hsz : (⟨#[77, 76, 83, 32, 49, 46, 48, 32]⟩ ++ s : ByteArray).size = 8 + s.size := by rw [ByteArray.size_append]; rfl
  have hdt : (⟨#[77, 76, 83, 32, 49, 46, 48, 32]⟩ ++ s : ByteArray).data.toList = mlsB ++ s.data.toList := by rw [ByteArray.data_append, Array.toList_append]; rfl
  have hrb := rd_bytesWorld w3 5 (⟨#[77, 76, 83, 32, 49, 46, 48, 32]⟩ ++ s) (by rw [hsz]; omega)
  rw [hdt, hsz] at hrb
  have hfl : ([be 2 n, lenB ((8 : Int) + s.size), mlsB ++ s.data.toList, rowB ctx] : List (List UInt8)).flatten = labI s.data.toList ctx n := by
    unfold labI
    rw [← HO.out.1]
    simp only [List.flatten_cons, List.flatten_nil, List.append_nil, List.append_assoc]
  have hll := labI_length s.data.toList ctx n (by rw [hsl]; omega) hcl
  have hl2 : 2 ≤ (labI s.data.toList ctx n).length := by unfold labI; rw [List.length_append, List.length_append, be_length]; omega
  refine (concat_rows _ [be 2 n, lenB ((8 : Int) + s.size), mlsB ++ s.data.toList, rowB ctx] _ (RL.lits4 (((o1.rd.kp k2).kp k3).kp kb) (o3.rd.kp kb) hrb ((o2.rd.kp k3).kp kb)) (by rw [hfl]; omega) (by rw [hfl]; omega) (by simp)).mono ?_
  rw [hfl]
  rintro e w5 ⟨⟨v5, rfl, o5⟩, k5⟩
  go_wp2_with fail
  go_ret2
  have kk : Kp w w5 := ((((k1.trans k2).trans k3).trans kb).trans ((Kp.refl _).alloc _)).trans k5
  have kl := ((((k1.trans k2).trans k3).trans kb).trans ((Kp.refl _).alloc (.cells #[.slice a1 n1 c1, .slice a3 n3 c3, .slice (some ⟨w3.heap.size, 0, none⟩) (8 + s.size) (grownCap w3 (8 + s.size) 0 5), .slice a2 n2 c2] 22))).size
  exact ⟨⟨_, rfl, o5.mono kl⟩, kk⟩

set_option maxHeartbeats 1000000 in
theorem labelled_no (s : ByteArray) (vc : Value) (ctx : List UInt8) (n : Int) (w : World) (hc : Rd w vc ctx) (hn : n < 0 ∨ 65535 < n) (hn2 : -9223372036854775808 ≤ n ∧ n ≤ 9223372036854775807) :
    Calls Tryz.prog 56 #[.string s, vc, .int .i64 n] w fun e w' => e = .returned (.tuple #[.slice none 0 0, .int .i64 1]) ∧ Kp w w' := by
  obtain ⟨ai, ci, rfl, _, _⟩ := hc.shape
  have hnum := Lib.hid (fun W => num_any n 2 W hn2)
  have hok : ¬ numOk n 2 := fun h => by
    have h4 := h.2.2.2
    have : (256 : Int) ^ (2 : Int).toNat = 65536 := by decide
    have h3 := h.2.2.1
    omega
  rw [(num_no hok).1] at hnum
  clear hok hn hn2
  go_enter Tryz.func56, Tryz.ntmps56
  go_wp2_with (first | (go_at_call 43; refine (hnum.out _).mono ?_; rintro e w1 ⟨v1, rfl, o1, k1⟩; obtain ⟨a1, n1, c1, rfl⟩ := o1.rd.sl))
  go_ret2
  exact ⟨rfl, k1⟩

set_option maxHeartbeats 1000000 in
theorem label_any (vk : Value) (s : ByteArray) (vc : Value) (k ctx : List UInt8) (n : Int) (w : World) (hk : Rd w vk k) (hc : Rd w vc ctx) (hs : s.size ≤ 300) (hcl : ctx.length ≤ 1400) (hkl : k.length ≤ 2000) (hn2 : -9223372036854775808 ≤ n ∧ n ≤ 9223372036854775807) :
    Calls Tryz.prog 32 #[vk, .string s, vc, .int .i64 n] w fun e w' => (∃ v, e = .returned (.tuple #[v, .int .i64 (expE n)]) ∧ Ow 5 w' w.heap.size v (labR k s.data.toList ctx n)) ∧ Kp w w' := by
  have hsl : s.data.toList.length = s.size := rfl
  by_cases h1 : n < 0 ∨ 65535 < n
  · have hno := exp_no k (labI s.data.toList ctx n.toNat) (n := n) (by omega)
    have HL := Lib.hid (labelled_no s vc ctx n w hc h1 hn2)
    unfold labR
    rw [hno.1, hno.2]
    clear h1 hn2
    go_enter Tryz.func32, Tryz.ntmps32
    go_wp2_with (first | (go_at_call 56; refine HL.out.mono ?_; rintro e w1 ⟨rfl, k1⟩))
    go_ret2
    exact ⟨⟨_, rfl, Ow.nil _ _ _⟩, k1⟩
  · obtain ⟨n, rfl⟩ := Int.eq_ofNat_of_zero_le (show 0 ≤ n by omega)
    have HL := Lib.hid (labelled_yes s vc ctx n w hc hs hcl (by omega))
    have hll := labI_length s.data.toList ctx n (by omega) hcl
    have HR : Hid (labR k s.data.toList ctx n = expR k (labI s.data.toList ctx n) n) := rfl
    rw [HR.out]
    generalize labI s.data.toList ctx n = I at *
    have HX := Lib.hid (fun W v5 (hk' : Rd W vk k) (h5 : Rd W v5 I) => expand_any vk v5 k I n W hk' h5 hkl hll)
    clear h1 hn2
    go_enter Tryz.func32, Tryz.ntmps32
    go_wp2_with (first | (go_at_call 56; refine HL.out.mono ?_; rintro e w1 ⟨⟨v1, rfl, o1⟩, k1⟩; obtain ⟨a1, n1, c1, rfl⟩ := o1.rd.sl) | (go_at_call 57; refine (HX.out _ _ (hk.kp k1) o1.rd).mono ?_; rintro e w2 ⟨⟨v2, rfl, o2⟩, k2⟩; obtain ⟨a2, n2, c2, rfl⟩ := o2.rd.sl))
    go_ret2
    exact ⟨⟨_, rfl, o2.mono k1.size⟩, k1.trans k2⟩

end Go.Proofs.YtdcbljfacmidjaaGreat
