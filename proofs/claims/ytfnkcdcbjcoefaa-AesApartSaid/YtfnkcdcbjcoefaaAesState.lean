/- (*aes.state).add, mix; (*aes.cipher).turn: a block on its way through the rounds. -/
import Derived.Test.YtfnkcdcbjcoefaaAesBoxes
import Derived.RegionTactic
import Derived.BigRegion
import Derived.Deep.RegionWith
set_option linter.unusedVariables false
set_option linter.unusedSimpArgs false
namespace Go.Proofs.Ytfnkcdcbjcoefaa
open Go.RowKit

/-- A goal that is told later: the ways through a region that end alike are walked on once. -/
structure Later (p : Prop) : Prop where
  out : p
theorem later {G p : Prop} (ways : Later G → p) (rest : Later G) : p := ways rest
/-- From A to B only block g is changed, and new ones laid. -/
structure Wr (g : Nat) (A B : World) : Prop where
  os : B.os = A.os
  tape : B.tape = A.tape
  output : B.output = A.output
  size : A.heap.size ≤ B.heap.size
  block : ∀ k, k < A.heap.size → k ≠ g → B.heap[k]? = A.heap[k]?
theorem Wr.refl (g : Nat) (A : World) : Wr g A A := ⟨rfl, rfl, rfl, Nat.le_refl _, fun _ _ _ => rfl⟩
theorem Wr.trans {g : Nat} {A B C : World} (h : Wr g A B) (k : Wr g B C) : Wr g A C :=
  ⟨k.os.trans h.os, k.tape.trans h.tape, k.output.trans h.output, Nat.le_trans h.size k.size, fun i hi hy => (k.block i (Nat.lt_of_lt_of_le hi h.size) hy).trans (h.block i hi hy)⟩
theorem Wr.of_kp {g : Nat} {A B : World} (h : Kp A B) : Wr g A B := ⟨h.os, h.tape, h.output, h.size, fun k hk _ => h.block k hk⟩
theorem Wr.setCell {g : Nat} {A B : World} (h : Wr g A B) (i : Nat) (v : Value) : Wr g A (B.setCell ⟨g, i, none⟩ v) :=
  ⟨h.os, h.tape, h.output, by simpa using h.size, fun k hk hn => (Below.heap_setCell B ⟨g, i, none⟩ v k hn).trans (h.block k hk hn)⟩
theorem Wr.drew {g : Nat} {A B : World} (h : Wr g A B) : Wr g A B.drew := h.trans (Wr.of_kp (Kp.refl B).drew)
theorem Wr.below {g n : Nat} {A B : World} (h : Wr g A B) (hn : n ≤ A.heap.size) (hg : n ≤ g) : Below n A B :=
  ⟨h.os, h.tape, h.output, h.size, fun k hk => h.block k (by omega) (by omega)⟩
theorem Wr.cell {g : Nat} {A B : World} (h : Wr g A B) {p : Addr} {v : Value} (hv : A.cell? p = some v) (hp : p.block ≠ g) : B.cell? p = some v :=
  (World.cell?_of_block (w := A) (h.block p.block (World.block_lt_of_cell? A p hv) hp)).trans hv
theorem Wr.by {g k : Nat} {A B : World} {T : TypeId} {l : List UInt8} (h : Wr g A B) (hb : By T A k l) (hk : k ≠ g) : By T B k l := (h.block k hb.lt hk).trans hb
theorem By.drew {T : TypeId} {w : World} {g : Nat} {l : List UInt8} (h : By T w g l) : By T w.drew g l := h

theorem By.made (T : TypeId) (w : World) (cs : Array Value) (l : List UInt8) (h : cs = bcells l) : By T (w.alloc (.cells cs T)) w.heap.size l := by
  subst h
  exact By.new T w l
/-- The bytes l lie in block b from place o on. -/
def Lies (w : World) (b o : Nat) (l : List UInt8) : Prop := ∀ i, i < l.length → w.cell? ⟨b, o + i, none⟩ = some (.int .u8 ((l.getD i 0).toNat : Int))
theorem Lies.wr {g b o : Nat} {A B : World} {l : List UInt8} (h : Lies A b o l) (k : Wr g A B) (hb : b ≠ g) : Lies B b o l := fun i hi => k.cell (h i hi) hb
theorem Lies.kp {b o : Nat} {A B : World} {l : List UInt8} (h : Lies A b o l) (k : Kp A B) : Lies B b o l := fun i hi => k.cell (h i hi)
theorem mixB_past (A B : List UInt8) (i j : Nat) (h : A.length = B.length) (hi : i ≤ A.length) (hj : i ≤ j) : (mixB A B i).getD j 0 = A.getD j 0 := by
  unfold mixB
  have hl : (B.take i).length = i := by simp; omega
  rw [List.getD_eq_getElem?_getD, List.getElem?_append_right (by omega), hl, List.getElem?_drop, List.getD_eq_getElem?_getD, show i + (j - i) = j by omega]

/-- A block, xor a row. -/
def addR (s r : List UInt8) : List UInt8 := tab 16 fun i => s.getD i 0 ^^^ r.getD i 0
theorem addR_length (s r : List UInt8) : (addR s r).length = 16 := tab_length _ _
theorem tab_some (n : Nat) (f : Nat → UInt8) (i : Nat) (h : i < n) : (tab n f)[i]? = some (f i) := by simp [tab, h]

set_option maxHeartbeats 1000000 in
theorem add_any (gs gr o : Nat) (s r : List UInt8) (w : World) (hs : s.length = 16) (hr : r.length = 16) (hne : gr ≠ gs) (hB : By 51 w gs s) (hR : Lies w gr o r) :
    Calls Try.prog 40 #[.pointer (some ⟨gs, 0, none⟩), .pointer (some ⟨gr, o, none⟩)] w fun e w' => e = .returned (.tuple #[]) ∧ By 51 w' gs (addR s r) ∧ Wr gs w w' := by
  have HN : Hid (∀ i, i < 16 → (mixB s (addR s r) i).set i (s.getD i 0 ^^^ r.getD i 0) = mixB s (addR s r) (i + 1)) := fun i hi =>
    mixB_set _ _ i (by rw [addR_length, hs]) (by rw [hs]; exact hi) _ (tab_some 16 _ i hi)
  have HG : Hid (∀ i, i < 16 → (mixB s (addR s r) i).getD i 0 = s.getD i 0) := fun i hi => mixB_past _ _ i i (by rw [addR_length, hs]) (by omega) (Nat.le_refl _)
  have HL : Hid (∀ i, i ≤ 16 → (mixB s (addR s r) i).length = 16) := fun i hi => by rw [mixB_length _ _ i (by rw [addR_length, hs]) (by omega), hs]
  have HA : Hid (mixB s (addR s r) 16 = addR s r) := mixB_all _ _ (by rw [addR_length, hs])
  have hB0 : By 51 w gs (mixB s (addR s r) 0) := by rw [show mixB s (addR s r) 0 = s by simp [mixB]]; exact hB
  generalize hM : mixB s (addR s r) = M at *
  generalize addR s r = X at *
  clear hM hB
  go_enter Try.func40, Try.ntmps40
  go_wp2_with fail
  go_loopw [5] (fun p wr => ∃ i : Nat, i ≤ 16 ∧ p = .int .i64 i ∧ By 51 wr gs (M i) ∧ Wr gs w wr) (fun p _ => 16 - (intOf p).toNat)
  case atStart => exact ⟨0, by omega, rfl, hB0, Wr.refl _ _⟩
  case round =>
    clear hB0
    obtain ⟨i, hi, rfl, hB, hw⟩ := hrel
    by_cases hlt : i < 16
    · have hq : (i : Int) < 16 := by omega
      have c1 := hB.cell i (by rw [HL.out i hi]; exact hlt)
      have f1 := hB.frozen i
      rw [HG.out i hlt] at c1
      have c2 := (hR.wr hw hne) i (by omega)
      have hx := b8_xor (s.getD i 0) (r.getD i 0)
      have hn := HN.out i hlt
      generalize s.getD i 0 = U at *
      generalize r.getD i 0 = V at *
      generalize U ^^^ V = Z at *
      have HZ := Lib.hid hn
      clear hn
      go_wp2_with fail
      go_region
      all_goals
        go_wp2_with fail
        go_roundw
        case rel => exact ⟨i + 1, by omega, by go_num, (hB.set i _ HZ.out).drew, (hw.setCell i _).drew⟩
        case measure => simp [intOf]; omega
    · obtain rfl : i = 16 := by omega
      rw [HA.out] at hB
      go_wp2_with fail
      go_end0
      exact ⟨rfl, hB, hw⟩

theorem from_five : ∀ i, i < 16 → (5 * i) % 16 = from' i := by
  have : ∀ i : Fin 16, (5 * i.1) % 16 = from' i.1 := by decide
  exact fun i hi => this ⟨i, hi⟩
theorem subS_length (s : List UInt8) : (subS s).length = 16 := tab_length _ _

set_option maxHeartbeats 1000000 in
theorem turn_any (gc gs bx : Nat) (s : List UInt8) (w : World) (hs : s.length = 16) (hcs : gc ≠ gs) (hbs : bx ≠ gs) (hC : w.cell? ⟨gc, 0, none⟩ = some (.pointer (some ⟨bx, 0, none⟩))) (hX : By 70 w bx boxRow) (hB : By 51 w gs s) :
    Calls Try.prog 41 #[.pointer (some ⟨gc, 0, none⟩), .pointer (some ⟨gs, 0, none⟩)] w fun e w' => e = .returned (.tuple #[]) ∧ By 51 w' gs (subS s) ∧ Wr gs w w' := by
  have HN : Hid (∀ i, i < 16 → (mixB s (subS s) i).set i (boxB (s.getD (from' i) 0)) = mixB s (subS s) (i + 1)) := fun i hi =>
    mixB_set _ _ i (by rw [subS_length, hs]) (by rw [hs]; exact hi) _ (tab_some 16 _ i hi)
  have HL : Hid (∀ i, i ≤ 16 → (mixB s (subS s) i).length = 16) := fun i hi => by rw [mixB_length _ _ i (by rw [subS_length, hs]) (by omega), hs]
  have HA : Hid (mixB s (subS s) 16 = subS s) := mixB_all _ _ (by rw [subS_length, hs])
  have h0 : mixB s (subS s) 0 = s := by simp [mixB]
  generalize hM : mixB s (subS s) = M at *
  generalize subS s = X at *
  have H0 := Lib.hid h0
  clear hM h0
  go_enter Try.func41, Try.ntmps41
  go_wp2_with (first
    | (refine wpList_load_by Try.underlying51 (by kernel_rfl) rfl (.tmp 7) rfl gs s rfl hB hs ?_)
    | (refine wpList_store_by (by kernel_rfl) rfl rfl (.tmp 4) (.tmp 8) rfl w.heap.size (List.replicate 16 0) s rfl rfl (By.made _ _ _ _ rfl) (by decide) hs ?_; intro w1 hO hbut))
  have k1 : Kp w w1 := hbut.below ((Kp.refl w).alloc _) (Nat.le_refl _)
  have hso : gs < w.heap.size := hB.lt
  have hB1 := hB.kp k1
  have hC1 := k1.cell hC
  have hX1 := hX.kp k1
  rw [← H0.out] at hB1
  clear hbut hB hC hX
  have hog : w.heap.size ≠ gs := by omega
  go_loopw [9] (fun p wr => ∃ i : Nat, i ≤ 16 ∧ p = .int .i64 i ∧ By 51 wr gs (M i) ∧ Wr gs w1 wr) (fun p _ => 16 - (intOf p).toNat)
  case atStart => exact ⟨0, by omega, rfl, hB1, Wr.refl _ _⟩
  case round =>
    clear hB1
    obtain ⟨i, hi, rfl, hB, hw⟩ := hrel
    by_cases hlt : i < 16
    · have hq : (i : Int) < 16 := by omega
      have hg := hB.cell i (by rw [HL.out i hi]; exact hlt)
      have f1 := hB.frozen i
      have c1 := hw.cell hC1 hcs
      obtain ⟨m, hm⟩ : ∃ m, from' i = m := ⟨_, rfl⟩
      have h5 := from_five i hlt
      rw [hm] at h5
      have hm16 : m < 16 := by omega
      have c2 := (hw.by hO hog).cell m (by omega)
      have hn := HN.out i hlt
      rw [hm] at hn
      have c3 := (hw.by hX1 hbs).cell (s.getD m 0).toNat (by rw [boxRow_length]; exact u8_lt _)
      rw [boxRow_get] at c3
      have hxl := u8_lt (s.getD m 0)
      have hx2 : ((s.getD m 0).toNat : Int) < 256 := by omega
      generalize s.getD m 0 = U at *
      generalize boxB U = Z at *
      have HZ := Lib.hid hn
      have i1 : IntKind.i64.wrap (5 * (i : Int)) = 5 * (i : Int) := IntWalk.i64_in _ (by omega)
      have i2 : (5 * (i : Int)).tmod 16 = (m : Int) := by rw [Int.tmod_eq_emod_of_nonneg (by omega)]; omega
      have i3 : (5 * (i : Int)) % 16 = (m : Int) := by omega
      have i4 : (m : Int) < 16 := by omega
      have i5 : 0 ≤ (m : Int) := by omega
      clear hn hm h5
      go_wp2_with fail
      go_region
      all_goals
        go_wp2_with fail
        go_roundw
        case rel => exact ⟨i + 1, by omega, by go_num, by first | exact hB.set i _ HZ.out | exact (hB.set i _ HZ.out).drew, by first | exact hw.setCell i _ | exact (hw.setCell i _).drew⟩
        case measure => simp [intOf]; omega
    · obtain rfl : i = 16 := by omega
      rw [HA.out] at hB
      go_wp2_with fail
      go_end0
      exact ⟨rfl, hB, (Wr.of_kp k1).trans hw⟩

/-- A column's bytes as the code makes them: the byte, xor all four, xor twice it and the next one. -/
theorem mix_code (a b c d : UInt8) : mix4 a b c d = a ^^^ (a ^^^ b ^^^ c ^^^ d ^^^ mulB (a ^^^ b) 2) := by
  unfold mix4
  rw [show (3 : UInt8) = 1 ^^^ 2 by decide, mulB_add, mulB_one, mulB_addL]
  have : ∀ x y z u v w : UInt8, x ^^^ (y ^^^ z) ^^^ u ^^^ v = w ^^^ (w ^^^ y ^^^ u ^^^ v ^^^ (x ^^^ z)) := by
    intro x y z u v w
    have e : w ^^^ (w ^^^ y ^^^ u ^^^ v ^^^ (x ^^^ z)) = (w ^^^ w) ^^^ (x ^^^ (y ^^^ z) ^^^ u ^^^ v) := by ac_rfl
    rw [e, UInt8.xor_self, UInt8.zero_xor]
  exact this _ _ _ _ _ _
theorem mix_all (a b c d : UInt8) : mix4 b c d a = b ^^^ (a ^^^ b ^^^ c ^^^ d ^^^ mulB (b ^^^ c) 2) ∧ mix4 c d a b = c ^^^ (a ^^^ b ^^^ c ^^^ d ^^^ mulB (c ^^^ d) 2) ∧ mix4 d a b c = d ^^^ (a ^^^ b ^^^ c ^^^ d ^^^ mulB (d ^^^ a) 2) := by
  rw [mix_code, mix_code, mix_code, show b ^^^ c ^^^ d ^^^ a = a ^^^ b ^^^ c ^^^ d by ac_rfl, show c ^^^ d ^^^ a ^^^ b = a ^^^ b ^^^ c ^^^ d by ac_rfl, show d ^^^ a ^^^ b ^^^ c = a ^^^ b ^^^ c ^^^ d by ac_rfl]
  exact ⟨rfl, rfl, rfl⟩
theorem set_getD (l : List UInt8) (i j : Nat) (x : UInt8) (hi : i < l.length) : (l.set i x).getD j 0 = if j = i then x else l.getD j 0 := by
  by_cases e : j = i
  · subst e
    simp [List.getD_eq_getElem?_getD, hi]
  · rw [if_neg e]
    simp [List.getD_eq_getElem?_getD, List.getElem?_set, Ne.symm e]
/-- The columns up to place i are mixed. -/
def MixTo (t : List UInt8) (i : Nat) (l : List UInt8) : Prop := l.length = 16 ∧ ∀ m, m < 16 → l.getD m 0 = if m < i then (mixS t).getD m 0 else t.getD m 0
theorem MixTo.begin {t : List UInt8} (h : t.length = 16) : MixTo t 0 t := ⟨h, fun m _ => by rw [if_neg (by omega)]⟩
theorem mixS_col (t : List UInt8) (n k : Nat) (hn : n < 4) (hk : k < 4) : (mixS t).getD (4 * n + k) 0 = mix4 (t.getD (4 * n + k) 0) (t.getD (4 * n + (k + 1) % 4) 0) (t.getD (4 * n + (k + 2) % 4) 0) (t.getD (4 * n + (k + 3) % 4) 0) := by
  unfold mixS
  rw [tab_get 16 _ (4 * n + k) (by omega)]
  unfold at4
  rw [show (4 * n + k) / 4 = n by omega, show (4 * n + k) % 4 = k by omega, Nat.add_zero, Nat.mod_eq_of_lt hk]
theorem MixTo.next {t l : List UInt8} {n : Nat} (h : MixTo t (4 * n) l) (hn : n < 4) (a b c d : UInt8) (ha : t.getD (4 * n) 0 = a) (hb : t.getD (4 * n + 1) 0 = b) (hc : t.getD (4 * n + 2) 0 = c) (hd : t.getD (4 * n + 3) 0 = d) :
    MixTo t (4 * (n + 1)) ((((l.set (4 * n) (mix4 a b c d)).set (4 * n + 1) (mix4 b c d a)).set (4 * n + 2) (mix4 c d a b)).set (4 * n + 3) (mix4 d a b c)) := by
  obtain ⟨h1, h2⟩ := h
  refine ⟨by simp [h1], fun m hm => ?_⟩
  have k0 := mixS_col t n 0 hn (by omega)
  have k1 := mixS_col t n 1 hn (by omega)
  have k2 := mixS_col t n 2 hn (by omega)
  have k3 := mixS_col t n 3 hn (by omega)
  simp only [Nat.add_zero, Nat.zero_add, Nat.reduceAdd, Nat.reduceMod, ha, hb, hc, hd] at k0 k1 k2 k3
  rw [set_getD _ _ _ _ (by simp [h1]; omega), set_getD _ _ _ _ (by simp [h1]; omega), set_getD _ _ _ _ (by simp [h1]; omega), set_getD _ _ _ _ (by rw [h1]; omega), h2 m hm]
  by_cases e3 : m = 4 * n + 3
  · subst e3; rw [if_pos rfl, if_pos (by omega), k3]
  · rw [if_neg e3]
    by_cases e2 : m = 4 * n + 2
    · subst e2; rw [if_pos rfl, if_pos (by omega), k2]
    · rw [if_neg e2]
      by_cases e1 : m = 4 * n + 1
      · subst e1; rw [if_pos rfl, if_pos (by omega), k1]
      · rw [if_neg e1]
        by_cases e0 : m = 4 * n
        · subst e0; rw [if_pos rfl, if_pos (by omega), k0]
        · rw [if_neg e0]
          by_cases hlt : m < 4 * n
          · rw [if_pos hlt, if_pos (by omega)]
          · rw [if_neg hlt, if_neg (by omega)]
theorem MixTo.all {t l : List UInt8} (h : MixTo t (4 * 4) l) : l = mixS t :=
  get_ext 16 _ _ h.1 (tab_length _ _) fun i hi => by rw [h.2 i hi, if_pos (by omega)]
theorem mixS_length (t : List UInt8) : (mixS t).length = 16 := tab_length _ _

end Go.Proofs.Ytfnkcdcbjcoefaa
