import Derived.Test.YtigpgcjbpoaclaaDoorC2
import Derived.Test.YtigpgcjbpoaclaaDoorC13
import Derived.Test.YtigpgcjbpoaclaaDoorC17
import Derived.Test.YtigpgcjbpoaclaaDoorC18
import Derived.Laws.CopyOwn
set_option linter.unusedVariables false
set_option linter.unusedSimpArgs false
namespace Go.Proofs.YtigpgcjbpoaclaaDoor
open Go.RowKit
def xorB (l : List UInt8) (x : UInt8) : List UInt8 := l.map fun b => b ^^^ x
def blkB (l : List UInt8) : List UInt8 := l ++ List.replicate (64 - l.length) 0
def keyB (k : List UInt8) : List UInt8 := blkB (if 64 < k.length then digest k else k)
def macB (k b : List UInt8) : List UInt8 := digest (xorB (keyB k) 92 ++ digest (xorB (keyB k) 54 ++ b))
theorem xorB_length (l : List UInt8) (x : UInt8) : (xorB l x).length = l.length := by simp [xorB]
theorem xorB_get (l : List UInt8) (x : UInt8) (i : Nat) (h : i < l.length) : (xorB l x)[i]? = some (l.getD i 0 ^^^ x) := by
  simp [xorB, List.getD_eq_getElem?_getD, List.getElem?_eq_getElem h]
theorem blkB_length (l : List UInt8) (h : l.length ≤ 64) : (blkB l).length = 64 := by simp [blkB]; omega
theorem ub8_xor (x y : UInt8) : bits .xor .u8 (x.toNat : Int) (y.toNat : Int) = ((x ^^^ y).toNat : Int) := by
  have e : ∀ z : UInt8, BitVec.ofInt IntKind.u8.bits (z.toNat : Int) = z.toBitVec := fun z => by
    rw [BitVec.ofInt_natCast]
    apply BitVec.eq_of_toNat_eq
    simp [IntKind.bits]
  simp only [bits, e]
  change IntKind.u8.wrap (((x ^^^ y).toNat : Nat) : Int) = _
  rw [IntKind.wrap_u8]
  have := (x ^^^ y).toNat_lt
  omega
theorem rd_nil (w : World) : Rd w (.slice none 0 0) [] := ⟨none, 0, rfl, Nat.le_refl _, Nat.zero_le _, fun _ => rfl, fun x hx => by cases hx⟩
theorem digest_length (l : List UInt8) : (digest l).length = 32 := bytes_length _
theorem same_at (u v : Value) (l m : List UInt8) (b : Bool) (w : World) (h : Rd w u l) (h' : Rd w v m) (hb : decide (l = m) = b) :
    Calls Tryd.prog 10 #[u, v] w fun e w' => e = .returned (.bool b) ∧ w = w' := by
  have := same_any u v l m w h h'
  rw [hb] at this
  exact this
theorem sum_32 (v : Value) (l : List UInt8) (w : World) (h : Rd w v l) (hl : l.length ≤ 2000) :
    Calls Tryd.prog 86 #[v] w fun e w' => (∃ a c, e = .returned (.slice a 32 c) ∧ Rd w' (.slice a 32 c) (digest l)) ∧ Kp w w' := by
  refine (sum_any v l w h hl).mono ?_
  rintro e w' ⟨⟨v', rfl, hr⟩, hk⟩
  obtain ⟨a, c, rfl, _, _⟩ := hr.shape
  rw [digest_length] at hr ⊢
  exact ⟨⟨a, c, rfl, hr⟩, hk⟩
theorem sum_32o (v : Value) (l : List UInt8) (w : World) (h : Rd w v l) (hl : l.length ≤ 2000) :
    Calls Tryd.prog 86 #[v] w fun e w' => (∃ a c, e = .returned (.slice a 32 c) ∧ Ow 5 w' w.heap.size (.slice a 32 c) (digest l)) ∧ Kp w w' := by
  refine (sum_own v l w h hl).mono ?_
  rintro e w' ⟨⟨v', rfl, hr⟩, hk⟩
  obtain ⟨a, c, rfl, _, _⟩ := hr.rd.shape
  rw [digest_length] at hr ⊢
  exact ⟨⟨a, c, rfl, hr⟩, hk⟩
theorem wpList_copy_blk {P : Program} {w : World} {t e : TypeId} (U : U8 P t e) {ops : Array Oper} {rest : List Oper} {o : Oper} {a : Act} {Q : Exit → Act → World → Prop} (hgd : o.guard = none) (d s : Operand)
    (ho : o.op = .call { callee := .builtin .copy, args := #[d, s], argTypes := #[t, t] })
    (T : TypeId) (g : Nat) (v : Value) (l m : List UInt8) (c n : Nat) (hd : a.eval d = .slice (some ⟨g, 0, none⟩) n c) (hs : a.eval s = v) (hg : By T w g m) (hn : m.length = n) (hr : Rd w v l) (hl : l.length ≤ n)
    (h : ∀ w', By T w' g (l ++ m.drop l.length) → But g w w' → wpList P ops Q rest (a.put o.dst (.int .i64 (l.length : Int))) w') : wpList P ops Q (o :: rest) a w := by
  obtain ⟨i, hi, hz, hsize, hby⟩ := U.hi
  have hsz : (P.info? e).map (·.size) = some 1 := by rw [hi]; simp [hsize]
  obtain ⟨x, cc, rfl, h1, h2, h3, h4⟩ := hr
  subst hn
  by_cases h0 : l = []
  · subst h0
    refine wpList_copy_nothing hgd d s t t ho e U.ht hsz _ _ _ _ _ _ hd hs (by simp) ?_
    exact h w (by simpa using hg) ⟨fun h _ => h, fun h _ => h, rfl, fun _ _ => rfl⟩
  · cases x with
    | none =>
      have := h3 rfl
      have : l.length = 0 := by omega
      exact absurd (List.eq_nil_of_length_eq_zero this) h0
    | some x =>
      refine wpList_copy_own hgd d s t t ho e U.ht hsz g 0 _ _ x _ _ hd hs _ _ hg (Lib.byteCells l) (by rw [byteCells_length]; exact (Nat.min_eq_left hl).symm) (fun j u hj => ?_) (by simp [Lib.byteCells]; omega) (fun u hu => ?_) ?_
      · have hjl : j < l.length := by
          have := (List.getElem?_eq_some_iff.1 hj).1
          rwa [byteCells_length] at this
        rw [byteCells_get l j hjl] at hj
        cases hj
        exact h4 x rfl j hjl
      · obtain ⟨b, _, rfl⟩ := List.mem_map.1 hu
        rfl
      · have e1 : (goInt (Lib.byteCells l).length) = .int .i64 (l.length : Int) := by rw [byteCells_length]; rfl
        rw [e1]
        refine h _ ?_ (But.setRow g w _)
        have hlt := (Array.getElem?_eq_some_iff.1 hg)
        unfold By
        rw [setRow_heap w g _ _ T _ hg]
        congr 2
        simp [Lib.byteCells, List.map_drop]
theorem keyB_length (k : List UInt8) : (keyB k).length = 64 := by
  unfold keyB
  split
  · exact blkB_length _ (by rw [digest_length]; omega)
  · exact blkB_length _ (by omega)
set_option maxHeartbeats 1000000 in
theorem mac_key (v : Value) (l : List UInt8) (w : World) (h : Rd w v l) (hl : l.length ≤ 2000) :
    Calls Tryd.prog 82 #[v] w fun e w' => (∃ g, e = .returned (.slice (some ⟨g, 0, none⟩) 64 64) ∧ By 5 w' g (keyB l) ∧ w.heap.size ≤ g) ∧ Kp w w' := by
  have U := u8
  obtain ⟨a, c, rfl, h1, h2⟩ := h.shape
  unfold maxLen at h2
  have HF : Hid (∀ W : World, By 5 (W.alloc (.cells (Array.replicate 64 (.int .u8 0)) 5)) W.heap.size (List.replicate 64 0)) := fun W => By.fresh _ _ _
  have hb : ∀ k : List UInt8, k.length ≤ 64 → k ++ (List.replicate 64 (0 : UInt8)).drop k.length = blkB k := fun k hk => by unfold blkB; rw [List.drop_replicate]
  have HB := Lib.hid hb
  clear hb
  by_cases hlt : 64 < l.length
  · have hK : keyB l = blkB (digest l) := by unfold keyB; rw [if_pos hlt]
    have HK := Lib.hid hK
    have HD := Lib.hid (digest_length l)
    have hlt' : 64 < (l.length : Int) := by omega
    clear hK
    go_enter Tryd.func82, Tryd.ntmps82
    go_wp2_with fail
    refine (sum_32 _ l _ h hl).mono ?_
    rintro e w1 ⟨⟨a1, c1, rfl, r1⟩, k1⟩
    go_wp2_with (first
      | (at_make; refine wpList_make_fresh (z := .int .u8 0) (b := 1) Tryd.underlying22 Tryd.info5 rfl (by decide) rfl _ _ rfl 64 rfl rfl (by omega) ?_; intro w2 hw2; have hg2 : By 5 w2 w1.heap.size (List.replicate 64 0) := (by rw [hw2]; exact HF w1); have hk2 : Kp w1 w2 := (by rw [hw2]; exact (Kp.refl _).alloc _); clear hw2)
      | (refine wpList_copy_blk U rfl (.tmp 10) (.tmp 11) rfl 5 w1.heap.size _ (digest l) (List.replicate 64 0) 64 64 rfl rfl hg2 (by simp) (r1.kp hk2) (by rw [HD.out]; omega) ?_; intro w3 hg3 hbut))
    go_ret
    rw [HB.out _ (by rw [HD.out]; omega)] at hg3
    refine ⟨⟨_, rfl, by rw [HK.out]; exact hg3, k1.size⟩, hbut.below (k1.trans hk2) k1.size⟩
  · have hK : keyB l = blkB l := by unfold keyB; rw [if_neg hlt]
    have HK := Lib.hid hK
    have hlt' : ¬ 64 < (l.length : Int) := by omega
    clear hK
    go_enter Tryd.func82, Tryd.ntmps82
    go_wp2_with (first
      | (at_make; refine wpList_make_fresh (z := .int .u8 0) (b := 1) Tryd.underlying22 Tryd.info5 rfl (by decide) rfl _ _ rfl 64 rfl rfl (by omega) ?_; intro w2 hw2; have hg2 : By 5 w2 w.heap.size (List.replicate 64 0) := (by rw [hw2]; exact HF w); have hk2 : Kp w w2 := (by rw [hw2]; exact (Kp.refl _).alloc _); clear hw2)
      | (refine wpList_copy_blk U rfl (.tmp 10) (.tmp 11) rfl 5 w.heap.size _ l (List.replicate 64 0) 64 64 rfl rfl hg2 (by simp) (h.kp hk2) (by omega) ?_; intro w3 hg3 hbut))
    go_ret
    rw [HB.out _ (by omega)] at hg3
    refine ⟨⟨_, rfl, by rw [HK.out]; exact hg3, Nat.le_refl _⟩, hbut.below hk2 (Nat.le_refl _)⟩
end Go.Proofs.YtigpgcjbpoaclaaDoor
