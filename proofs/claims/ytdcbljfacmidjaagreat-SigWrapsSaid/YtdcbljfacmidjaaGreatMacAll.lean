/- HMAC in plain words: a key's block, a row with each byte turned, tags; rows held beside one another. Nothing of a dump. -/
import Derived.Test.YtdcbljfacmidjaaGreatByteRow
import Derived.Laws.CopyOwn
import Derived.Test.YtdcbljfacmidjaaGreatShaC
import Derived.Test.YtdcbljfacmidjaaGreatSame
import Derived.Test.YtdcbljfacmidjaaGreatRange
import Derived.Test.YtdcbljfacmidjaaGreatOneCell
import Derived.RegionTactic
import Derived.BigRegion
import Derived.Test.YtdcbljfacmidjaaGreatOpen
set_option linter.unusedVariables false
set_option linter.unusedSimpArgs false
namespace Go.Proofs.YtdcbljfacmidjaaGreat
open Go.RowKit

/-- A row, each byte xor one. -/
def xorB (l : List UInt8) (x : UInt8) : List UInt8 := l.map fun b => b ^^^ x
/-- A row of at most 64 bytes, with noughts behind it. -/
def blkB (l : List UInt8) : List UInt8 := l ++ List.replicate (64 - l.length) 0
/-- A key's block. -/
def keyB (k : List UInt8) : List UInt8 := blkB (if 64 < k.length then digest k else k)
/-- A tag. -/
def macB (k b : List UInt8) : List UInt8 := digest (xorB (keyB k) 92 ++ digest (xorB (keyB k) 54 ++ b))
theorem xorB_length (l : List UInt8) (x : UInt8) : (xorB l x).length = l.length := by simp [xorB]
theorem xorB_get (l : List UInt8) (x : UInt8) (i : Nat) (h : i < l.length) : (xorB l x)[i]? = some (l.getD i 0 ^^^ x) := by
  simp [xorB, List.getD_eq_getElem?_getD, List.getElem?_eq_getElem h]
theorem xorB_append (l m : List UInt8) (x : UInt8) : xorB (l ++ m) x = xorB l x ++ xorB m x := by simp [xorB]
theorem blkB_length (l : List UInt8) (h : l.length ≤ 64) : (blkB l).length = 64 := by simp [blkB]; omega

theorem ub8_xor (x y : UInt8) : bits .xor .u8 (x.toNat : Int) (y.toNat : Int) = ((x ^^^ y).toNat : Int) := by
  have e : ∀ z : UInt8, BitVec.ofInt IntKind.u8.bits (z.toNat : Int) = z.toBitVec := fun z => by
    rw [BitVec.ofInt_natCast]
    apply BitVec.eq_of_toNat_eq
    simp [IntKind.bits]
  simp only [bits, e]
  change IntKind.u8.wrap (((x ^^^ y).toNat : Nat) : Int) = _
  rw [IntKind.wrap_u8]
  have := (x ^^^ y).toNat_lt
  omega
theorem ub8_or (x y : UInt8) : bits .or .u8 (x.toNat : Int) (y.toNat : Int) = ((x ||| y).toNat : Int) := by
  have e : ∀ z : UInt8, BitVec.ofInt IntKind.u8.bits (z.toNat : Int) = z.toBitVec := fun z => by
    rw [BitVec.ofInt_natCast]
    apply BitVec.eq_of_toNat_eq
    simp [IntKind.bits]
  simp only [bits, e]
  change IntKind.u8.wrap (((x ||| y).toNat : Nat) : Int) = _
  rw [IntKind.wrap_u8]
  have := (x ||| y).toNat_lt
  omega
theorem or_zero8 (a b : UInt8) : a ||| b = 0 ↔ a = 0 ∧ b = 0 := by
  constructor
  · intro h
    have h' : a.toBitVec ||| b.toBitVec = 0#8 := by rw [← UInt8.toBitVec_or, h]; rfl
    constructor
    · apply UInt8.toBitVec_inj.1
      exact (BitVec.or_eq_zero_iff.1 h').1
    · apply UInt8.toBitVec_inj.1
      exact (BitVec.or_eq_zero_iff.1 h').2
  · rintro ⟨rfl, rfl⟩; rfl
theorem xor_zero8 (a b : UInt8) : a ^^^ b = 0 ↔ a = b := by
  constructor
  · intro h
    have : a ^^^ b ^^^ b = 0 ^^^ b := by rw [h]
    rw [UInt8.xor_assoc, UInt8.xor_self, UInt8.xor_zero, UInt8.zero_xor] at this
    exact this
  · rintro rfl; exact UInt8.xor_self
/-- Where two rows part, up to a place. -/
def orT (l m : List UInt8) : Nat → UInt8
  | 0 => 0
  | k + 1 => orT l m k ||| (l.getD k 0 ^^^ m.getD k 0)
theorem orT_zero (l m : List UInt8) : ∀ k, k ≤ l.length → k ≤ m.length → (orT l m k = 0 ↔ l.take k = m.take k)
  | 0, _, _ => by simp [orT]
  | k + 1, h, h' => by
    rw [orT, or_zero8, xor_zero8, orT_zero l m k (by omega) (by omega), snoc_take l k (by omega), snoc_take m k (by omega)]
    constructor
    · rintro ⟨a, b⟩; rw [a, b]
    · intro e
      have := List.append_inj e (by simp; omega)
      exact ⟨this.1, by simpa using this.2⟩
theorem orT_all (l m : List UInt8) (h : l.length = m.length) : decide (orT l m l.length = 0) = decide (l = m) := by
  have := orT_zero l m l.length (Nat.le_refl _) (by omega)
  rw [List.take_length, h, List.take_length, ← h] at this
  exact decide_eq_decide.2 this
end Go.Proofs.YtdcbljfacmidjaaGreat

/- copy onto the head of a block of the call's own. Nothing of a dump. -/
set_option linter.unusedVariables false
set_option linter.unusedSimpArgs false
namespace Go.Proofs.YtdcbljfacmidjaaGreat
open Go.RowKit

/-- copy(d, s): d the head of a row of noughts of the call's own, s whatever reads as bytes. -/
theorem wpList_copy_blk {P : Program} {w : World} {t e : TypeId} (U : U8 P t e) {ops : Array Oper} {rest : List Oper} {o : Oper} {a : Act} {Q : Exit → Act → World → Prop} (hgd : o.guard = none) (d s : Operand)
    (ho : o.op = .call { callee := .builtin .copy, args := #[d, s], argTypes := #[t, t] })
    (T : TypeId) (g : Nat) (v : Value) (l m : List UInt8) (c n : Nat) (hd : a.eval d = .slice (some ⟨g, 0, none⟩) n c) (hs : a.eval s = v) (hg : By T w g m) (hn : m.length = n) (hr : Rd w v l) (hl : l.length ≤ n)
    (h : ∀ w', By T w' g (l ++ m.drop l.length) → But g w w' → wpList P ops Q rest (a.put o.dst (.int .i64 (l.length : Int))) w') : wpList P ops Q (o :: rest) a w := by
  obtain ⟨i, hi, hz, hsize, hby⟩ := U.hi
  have hsz : (P.info? e).map (·.size) = some 1 := by rw [hi]; simp [hsize]
  obtain ⟨x, cc, rfl, h1, h2, h3, h4⟩ := hr
  subst hn
  by_cases h0 : l = []
  · subst h0
    refine wpList_copy_nothing hgd d s t t ho e U.ht hsz _ _ _ _ _ _ hd hs (by simp) ?_
    exact h w (by simpa using hg) ⟨fun h _ => h, fun h _ => h, rfl, fun _ _ => rfl⟩
  · cases x with
    | none =>
      have := h3 rfl
      have : l.length = 0 := by omega
      exact absurd (List.eq_nil_of_length_eq_zero this) h0
    | some x =>
      refine wpList_copy_own hgd d s t t ho e U.ht hsz g 0 _ _ x _ _ hd hs _ _ hg (Lib.byteCells l) (by rw [byteCells_length]; exact (Nat.min_eq_left hl).symm) (fun j u hj => ?_) (by simp [Lib.byteCells]; omega) (fun u hu => ?_) ?_
      · have hjl : j < l.length := by
          have := (List.getElem?_eq_some_iff.1 hj).1
          rwa [byteCells_length] at this
        rw [byteCells_get l j hjl] at hj
        cases hj
        exact h4 x rfl j hjl
      · obtain ⟨b, _, rfl⟩ := List.mem_map.1 hu
        rfl
      · have e1 : (goInt (Lib.byteCells l).length) = .int .i64 (l.length : Int) := by rw [byteCells_length]; rfl
        rw [e1]
        refine h _ ?_ (But.setRow g w _)
        have hlt := (Array.getElem?_eq_some_iff.1 hg)
        unfold By
        rw [setRow_heap w g _ _ T _ hg]
        congr 2
        simp [Lib.byteCells, List.map_drop]

end Go.Proofs.YtdcbljfacmidjaaGreat

/- mac.Key; the document's own. -/
set_option linter.unusedVariables false
set_option linter.unusedSimpArgs false
namespace Go.Proofs.YtdcbljfacmidjaaGreat
open Go.RowKit

theorem keyB_length (k : List UInt8) : (keyB k).length = 64 := by
  unfold keyB
  split
  · exact blkB_length _ (by rw [digest_length]; omega)
  · exact blkB_length _ (by omega)

set_option maxHeartbeats 1000000 in
theorem mac_key (v : Value) (l : List UInt8) (w : World) (h : Rd w v l) (hl : l.length ≤ 2000) :
    Calls Tryz.prog 60 #[v] w fun e w' => (∃ g, e = .returned (.slice (some ⟨g, 0, none⟩) 64 64) ∧ By 5 w' g (keyB l) ∧ w.heap.size ≤ g) ∧ Kp w w' := by
  have U := u8
  obtain ⟨a, c, rfl, h1, h2⟩ := h.shape
  unfold maxLen at h2
  have HF : Hid (∀ W : World, By 5 (W.alloc (.cells (Array.replicate 64 (.int .u8 0)) 5)) W.heap.size (List.replicate 64 0)) := fun W => By.fresh _ _ _
  have hb : ∀ k : List UInt8, k.length ≤ 64 → k ++ (List.replicate 64 (0 : UInt8)).drop k.length = blkB k := fun k hk => by unfold blkB; rw [List.drop_replicate]
  have HB := Lib.hid hb
  clear hb
  by_cases hlt : 64 < l.length
  · have hK : keyB l = blkB (digest l) := by unfold keyB; rw [if_pos hlt]
    have HK := Lib.hid hK
    have HD := Lib.hid (digest_length l)
    have hlt' : 64 < (l.length : Int) := by omega
    clear hK
    go_enter Tryz.func60, Tryz.ntmps60
    go_wp2_with fail
    refine (sum_32 _ l _ h hl).mono ?_
    rintro e w1 ⟨⟨a1, c1, rfl, r1⟩, k1⟩
    go_wp2_with (first
      | (at_make; refine wpList_make_fresh (z := .int .u8 0) (b := 1) Tryz.underlying22 Tryz.info5 rfl (by decide) rfl _ _ rfl 64 rfl rfl (by omega) ?_; intro w2 hw2; have hg2 : By 5 w2 w1.heap.size (List.replicate 64 0) := (by rw [hw2]; exact HF w1); have hk2 : Kp w1 w2 := (by rw [hw2]; exact (Kp.refl _).alloc _); clear hw2)
      | (refine wpList_copy_blk U rfl (.tmp 10) (.tmp 11) rfl 5 w1.heap.size _ (digest l) (List.replicate 64 0) 64 64 rfl rfl hg2 (by simp) (r1.kp hk2) (by rw [HD.out]; omega) ?_; intro w3 hg3 hbut))
    go_ret
    rw [HB.out _ (by rw [HD.out]; omega)] at hg3
    refine ⟨⟨_, rfl, by rw [HK.out]; exact hg3, k1.size⟩, hbut.below (k1.trans hk2) k1.size⟩
  · have hK : keyB l = blkB l := by unfold keyB; rw [if_neg hlt]
    have HK := Lib.hid hK
    have hlt' : ¬ 64 < (l.length : Int) := by omega
    clear hK
    go_enter Tryz.func60, Tryz.ntmps60
    go_wp2_with (first
      | (at_make; refine wpList_make_fresh (z := .int .u8 0) (b := 1) Tryz.underlying22 Tryz.info5 rfl (by decide) rfl _ _ rfl 64 rfl rfl (by omega) ?_; intro w2 hw2; have hg2 : By 5 w2 w.heap.size (List.replicate 64 0) := (by rw [hw2]; exact HF w); have hk2 : Kp w w2 := (by rw [hw2]; exact (Kp.refl _).alloc _); clear hw2)
      | (refine wpList_copy_blk U rfl (.tmp 10) (.tmp 11) rfl 5 w.heap.size _ l (List.replicate 64 0) 64 64 rfl rfl hg2 (by simp) (h.kp hk2) (by omega) ?_; intro w3 hg3 hbut))
    go_ret
    rw [HB.out _ (by omega)] at hg3
    refine ⟨⟨_, rfl, by rw [HK.out]; exact hg3, Nat.le_refl _⟩, hbut.below hk2 (Nat.le_refl _)⟩
end Go.Proofs.YtdcbljfacmidjaaGreat

/- mac.padded: a key's block, each byte xor one; by a closure that is told each byte. -/
set_option linter.unusedVariables false
set_option linter.unusedSimpArgs false
namespace Go.Proofs.YtdcbljfacmidjaaGreat
open Go.RowKit

theorem One.same {T : TypeId} {X : Nat → Prop} {w w' : World} {p : Nat} {v : Value} (h : One T w p v) (k : Same X w w') (hx : ¬ X p) : One T w' p v := (k.block p h.lt hx).trans h

theorem mac_pad1 (i n c : Nat) (x y : UInt8) (p o g : Nat) (T1 T2 : TypeId) (m : List UInt8) (w : World) (hi : i < m.length) (hn : m.length = n) (hp : One T1 w p (.int .u8 (y.toNat : Int))) (ho : One T2 w o (.slice (some ⟨g, 0, none⟩) n c)) (hg : By 5 w g m) (hnm : n ≤ 1000000) :
    Calls Tryz.prog 82 #[.int .i64 i, .int .u8 (x.toNat : Int), .pointer (some ⟨p, 0, none⟩), .pointer (some ⟨o, 0, none⟩)] w fun e w' => e = .returned (.tuple #[]) ∧ w.setCell ⟨g, i, none⟩ (.int .u8 ((x ^^^ y).toNat : Int)) = w' := by
  have cp := hp.cell
  have co := ho.cell
  have cg := hg.cell i hi
  have fg := hg.frozen i
  have hb := ub8_xor x y
  have hin : i < n := by omega
  obtain ⟨z, hz⟩ : ∃ z : Int, z = ((x ^^^ y).toNat : Int) := ⟨_, rfl⟩
  rw [← hz] at hb ⊢
  clear hz hn
  go_enter Tryz.func82, Tryz.ntmps82
  go_wp2_with fail
  go_end0
  exact ⟨rfl, rfl⟩

theorem xorB_set (l : List UInt8) (y : UInt8) (k : Nat) (h : k < l.length) : (mixB (List.replicate l.length 0) (xorB l y) k).set k (l.getD k 0 ^^^ y) = mixB (List.replicate l.length 0) (xorB l y) (k + 1) :=
  mixB_set _ _ k (by simp [xorB_length]) (by simpa using h) _ (xorB_get l y k h)

set_option maxHeartbeats 1000000 in
theorem mac_each_pad (v : Value) (l : List UInt8) (y : UInt8) (p o g c : Nat) (T1 T2 : TypeId) (w w3 : World) (h : Rd w v l) (hl : l.length ≤ 1000000) (hk : Kp w w3) (hgw : w.heap.size ≤ g)
    (hp : One T1 w3 p (.int .u8 (y.toNat : Int))) (ho : One T2 w3 o (.slice (some ⟨g, 0, none⟩) l.length c)) (hpg : p ≠ g) (hog : o ≠ g) (hg : By 5 w3 g (List.replicate l.length 0)) :
    Calls Tryz.prog 35 #[v, .func (.func 82) #[] #[.pointer (some ⟨p, 0, none⟩), .pointer (some ⟨o, 0, none⟩)]] w3 fun e w' => e = .returned (.tuple #[]) ∧ By 5 w' g (xorB l y) ∧ Same (fun k => k = g) w3 w' ∧ Kp w w' := by
  obtain ⟨a, cc, rfl, h1, h2⟩ := h.shape
  unfold maxLen at h2
  have HS := Lib.hid (xorB_set l y)
  have hall : mixB (List.replicate l.length 0) (xorB l y) l.length = xorB l y := by
    have := mixB_all (List.replicate l.length 0) (xorB l y) (by simp [xorB_length])
    rwa [xorB_length] at this
  have HA := Lib.hid hall
  have h00 : mixB (List.replicate l.length 0) (xorB l y) 0 = List.replicate l.length 0 := by simp [mixB]
  have hg0 : By 5 w3 g (mixB (List.replicate l.length 0) (xorB l y) 0) := by rw [h00]; exact hg
  have HL : Hid (∀ k, k ≤ l.length → (mixB (List.replicate l.length 0) (xorB l y) k).length = l.length) := fun k hk => by
    rw [mixB_length _ _ _ (by simp [xorB_length]) (by simpa using hk)]; simp
  clear hall h00 hg
  go_enter Tryz.func35, Tryz.ntmps35
  go_wp2_with fail
  go_loopw [8] (fun i wr => ∃ k : Nat, k ≤ l.length ∧ i = .int .i64 k ∧ By 5 wr g (mixB (List.replicate l.length 0) (xorB l y) k) ∧ Same (fun k => k = g) w3 wr ∧ Kp w wr) (fun i _ => (l.length - (intOf i).toNat))
  case atStart => exact ⟨0, by omega, rfl, hg0, Same.refl _ _, hk⟩
  case round =>
    clear hg0
    obtain ⟨k, hkl, rfl, hB, hS, hkp⟩ := hrel
    by_cases hlt : k < l.length
    · obtain ⟨b, off, rfl, _, hcell⟩ := h.at k hlt
      have hc0 := hkp.cell (hcell k hlt)
      have hpr := hp.same hS hpg
      have hor := ho.same hS hog
      have HX := Lib.hid (mac_pad1 k l.length c (l.getD k 0) y p o g T1 T2 _ wr (by rw [HL.out k hkl]; exact hlt) (HL.out k hkl) hpr hor hB hl)
      have hst := HS.out k hlt
      have HST := Lib.hid hst
      clear hst hcell
      generalize hx : l.getD k 0 = x at *
      clear hx
      go_wp2_with (go_at_call 82; refine HX.out.mono ?_; rintro e w4 ⟨rfl, rfl⟩)
      go_roundw
      case rel => exact ⟨k + 1, by omega, by go_num, hB.set k _ HST.out, hS.setCell _ _ rfl, Below.setCell hkp hgw _⟩
      case measure => simp [intOf]; omega
    · obtain rfl : k = l.length := by omega
      go_wp2_with fail
      go_end0
      exact ⟨rfl, by rw [← HA.out]; exact hB, hS, hkp⟩

set_option maxHeartbeats 1000000 in
theorem mac_padded (v : Value) (l : List UInt8) (y : UInt8) (w : World) (h : Rd w v l) (hl : l.length ≤ 1000000) :
    Calls Tryz.prog 62 #[v, .int .u8 (y.toNat : Int)] w fun e w' => (∃ g, e = .returned (.slice (some ⟨g, 0, none⟩) l.length l.length) ∧ By 5 w' g (xorB l y) ∧ w.heap.size ≤ g) ∧ Kp w w' := by
  obtain ⟨a, cc, rfl, h1, h2⟩ := h.shape
  unfold maxLen at h2
  have hp0 : One 5 (w.alloc (.cells #[.int .u8 (y.toNat : Int)] 5)) w.heap.size (.int .u8 (y.toNat : Int)) := One.new _ _ _
  have hf0 : ∀ W, W = (w.alloc (.cells #[.int .u8 (y.toNat : Int)] 5)).alloc (.cells (Array.replicate l.length (.int .u8 0)) 5) → By 5 W (w.heap.size + 1) (List.replicate l.length 0) := fun W hW => by
    subst hW
    have := By.fresh 5 (w.alloc (.cells #[.int .u8 (y.toNat : Int)] 5)) l.length
    rwa [World.size_alloc] at this
  have HF := Lib.hid hf0
  have HP := Lib.hid hp0
  clear hf0 hp0
  go_enter Tryz.func62, Tryz.ntmps62
  go_wp2_with (at_make; refine wpList_make_fresh (z := .int .u8 0) (b := 1) Tryz.underlying22 Tryz.info5 rfl (by decide) rfl _ _ rfl l.length rfl rfl hl ?_; intro w1 hw1; have hg1 := HF.out w1 hw1; have hp1 : One 5 w1 w.heap.size (.int .u8 (y.toNat : Int)) := (by rw [hw1]; exact HP.out.kp ((Kp.refl _).alloc _)); have hk1 : Kp w w1 := (by rw [hw1]; exact ((Kp.refl w).alloc _).alloc _); have hs1 := hg1.lt; clear hw1)
  have ho3 : One 22 (w1.alloc (.cells #[.slice (some ⟨w.heap.size + 1, 0, none⟩) l.length l.length] 22)) w1.heap.size (.slice (some ⟨w.heap.size + 1, 0, none⟩) l.length l.length) := One.new _ _ _
  refine (mac_each_pad _ l y w.heap.size w1.heap.size (w.heap.size + 1) l.length _ _ w _ h hl (hk1.alloc _) (by omega) (hp1.kp ((Kp.refl _).alloc _)) ho3 (by omega) (by omega) (hg1.kp ((Kp.refl _).alloc _))).mono ?_
  rintro e w4 ⟨rfl, hg4, hS4, hk4⟩
  have ho4 := (ho3.same hS4 (by omega)).cell
  clear ho3
  go_wp2_with fail
  go_ret
  exact ⟨⟨_, rfl, hg4, by omega⟩, hk4⟩
end Go.Proofs.YtdcbljfacmidjaaGreat

/- Slices of one-cell values (rows of rows): what they hold. Nothing of a dump. -/
set_option linter.unusedVariables false
set_option linter.unusedSimpArgs false
namespace Go.Proofs.YtdcbljfacmidjaaGreat
open Go.RowKit Go.ChangeShapes Go.WideShapes Go.Deep

/-- The slice value v holds the values us, a cell each. -/
def Vals (w : World) (v : Value) (us : List Value) : Prop :=
  ∃ a c, v = .slice a us.length c ∧ us.length ≤ c ∧ c ≤ maxLen ∧ (a = none → c = 0) ∧
    ∀ x, a = some x → ∀ i, (h : i < us.length) → w.cell? (x.add i) = some (us[i]'h)
theorem Vals.kp {w w' : World} {v : Value} {us : List Value} (h : Vals w v us) (k : Kp w w') : Vals w' v us := by
  obtain ⟨a, c, rfl, h1, h2, h3, h4⟩ := h
  exact ⟨a, c, rfl, h1, h2, h3, fun x hx i hi => k.cell (h4 x hx i hi)⟩
theorem Vals.shape {w : World} {v : Value} {us : List Value} (h : Vals w v us) : ∃ a c, v = .slice a us.length c ∧ us.length ≤ c ∧ c ≤ maxLen := by
  obtain ⟨a, c, e, h1, h2, _⟩ := h
  exact ⟨a, c, e, h1, h2⟩
theorem Vals.nil (w : World) : Vals w (.slice none 0 0) [] := ⟨none, 0, rfl, Nat.le_refl _, Nat.zero_le _, fun _ => rfl, fun x hx => by cases hx⟩
theorem Vals.at {w : World} {a : Option Addr} {n c : Nat} {us : List Value} (h : Vals w (.slice a n c) us) (k : Nat) (hk : k < n) :
    ∃ b off, a = some ⟨b, off, none⟩ ∧ b < w.heap.size ∧ ∀ i, i < n → w.cell? ⟨b, off + i, none⟩ = some (us.getD i (.bool false)) := by
  obtain ⟨a', c', e, h1, h2, h3, h4⟩ := h
  simp only [Value.slice.injEq] at e
  obtain ⟨rfl, rfl, rfl⟩ := e
  cases a with
  | none => have := h3 rfl; omega
  | some x =>
    obtain ⟨b, off, spot⟩ := x
    have h0 := h4 _ rfl 0 (by omega)
    have hs : spot = none := by simpa [Addr.add] using World.cell?_spot h0
    subst hs
    refine ⟨b, off, rfl, World.block_lt_of_cell? w _ h0, fun i hi => ?_⟩
    have := h4 _ rfl i hi
    rw [List.getD_eq_getElem?_getD, List.getElem?_eq_getElem hi, Option.getD_some, ← this]
    congr 1
    unfold Addr.add
    split <;> simp_all
/-- A row of values of the call's own. -/
theorem Vals.own {w : World} {B : Nat} {e : TypeId} {v : Value} {us : List Value} (h : w.ownsRow B e 1 v us.length us) : Vals w v us := by
  rcases h.2 with ⟨rfl, h0⟩ | ⟨g, cap, cur, rfl, hb, hg, hn, hm, hs, ht⟩
  · exact ⟨none, 0, by rw [h0], by omega, Nat.zero_le _, fun _ => rfl, fun x hx => by cases hx⟩
  · refine ⟨_, cap, rfl, hn, hm, fun h => (by cases h), fun x hx i hi => ?_⟩
    cases hx
    have e : (⟨g, 0, none⟩ : Addr).add i = ⟨g, i, none⟩ := by unfold Addr.add; split <;> simp_all
    rw [e, cell_of_row w g i _ _ _ hg]
    have hx : us[i]? = some us[i] := List.getElem?_eq_getElem hi
    rw [← hx, ← ht, List.getElem?_take_of_lt (by omega)]
    simp

/-- The slice value v holds rows of bytes. -/
def RL (w : World) (v : Value) (ls : List (List UInt8)) : Prop := ∃ us, Vals w v us ∧ us.length = ls.length ∧ ∀ i, i < ls.length → Rd w (us.getD i (.bool false)) (ls.getD i [])
theorem RL.kp {w w' : World} {v : Value} {ls : List (List UInt8)} (h : RL w v ls) (k : Kp w w') : RL w' v ls := by
  obtain ⟨us, h1, h2, h3⟩ := h
  exact ⟨us, h1.kp k, h2, fun i hi => (h3 i hi).kp k⟩
theorem RL.shape {w : World} {v : Value} {ls : List (List UInt8)} (h : RL w v ls) : ∃ a c, v = .slice a ls.length c ∧ ls.length ≤ c ∧ c ≤ maxLen := by
  obtain ⟨us, h1, h2, h3⟩ := h
  rw [← h2]
  exact h1.shape
theorem RL.nil (w : World) : RL w (.slice none 0 0) [] := ⟨[], Vals.nil w, rfl, fun i hi => by simp at hi⟩
theorem RL.at {w : World} {a : Option Addr} {n c : Nat} {ls : List (List UInt8)} (h : RL w (.slice a n c) ls) (k : Nat) (hk : k < n) :
    ∃ b off, a = some ⟨b, off, none⟩ ∧ b < w.heap.size ∧ ∀ i, i < n → ∃ u, w.cell? ⟨b, off + i, none⟩ = some u ∧ Rd w u (ls.getD i []) := by
  obtain ⟨us, h1, h2, h3⟩ := h
  obtain ⟨b, off, ha, hb, hc⟩ := h1.at k hk
  have hn : n = us.length := by
    obtain ⟨a', c', e, _⟩ := h1.shape
    simp only [Value.slice.injEq] at e
    exact e.2.1
  exact ⟨b, off, ha, hb, fun i hi => ⟨_, hc i hi, h3 i (by omega)⟩⟩
theorem RL.cons {w : World} {B : Nat} {e : TypeId} {v u : Value} {l : List UInt8} {us : List Value} {ls : List (List UInt8)} (h : w.ownsRow B e 1 v (u :: us).length (u :: us)) (hu : Rd w u l) (hl : us.length = ls.length)
    (hr : ∀ i, i < ls.length → Rd w (us.getD i (.bool false)) (ls.getD i [])) : RL w v (l :: ls) := by
  refine ⟨u :: us, Vals.own h, by simp [hl], fun i hi => ?_⟩
  cases i with
  | zero => simpa using hu
  | succ i => simpa using hr i (by simpa using hi)

section
variable {H : Type} {enc : TypeId × Value → H} {P : Program} {w : World} {base : Nat} {spare : Nat → Bool} {held : Bool}
theorem RL.of_cells {t t2 e : TypeId} {fuel : Nat} {cs : List Value} {x : DataW H × List MemPlace} (ht : P.underlying t = some (.slice t2)) (hc2 : P.cellsOf t2 = 1) (ht2 : P.underlying t2 = some (.slice e)) (he : P.underlying e = some (.int .u8)) (hc : P.cellsOf e = 1)
    (h : DataW.trod enc P w base spare held fuel t cs = some x) : ∃ v ls, cs = [v] ∧ RL w v ls := by
  rcases open_slice ht h with ⟨hcs, _⟩ | ⟨x, len, cap, m, k, D, Pl, hcs, _, hl, hm, hmm, _, hi⟩
  · exact ⟨_, [], hcs, RL.nil w⟩
  · have hlm : len ≤ m := by rw [hmm]; split <;> omega
    have hone : ∀ i, i < len → ∃ y : Value × List UInt8, w.cell? (x.add i) = some y.1 ∧ Rd w y.1 y.2 := by
      intro i hin
      obtain ⟨cs', hcell, htr⟩ := hi i (by omega)
      rw [hc2] at hcell
      obtain ⟨_, hcl, hat⟩ := World.cells?_some hcell
      obtain ⟨u, l, rfl, hr⟩ := Rd.of_cells ht2 he hc htr
      refine ⟨(u, l), ?_, hr⟩
      have := hat 0 (by omega)
      simpa [Addr.add] using this
    obtain ⟨ys, hys, hq⟩ := @choose_list (Value × List UInt8) ⟨(.bool false, [])⟩ len (fun i y => w.cell? (x.add i) = some y.1 ∧ Rd w y.1 y.2) hone (.bool false, [])
    have hg : ∀ i, i < len → (ys.map (·.1)).getD i (.bool false) = (ys.getD i (.bool false, [])).1 ∧ (ys.map (·.2)).getD i [] = (ys.getD i (.bool false, [])).2 := fun i hi => by
      simp [List.getD_eq_getElem?_getD, List.getElem?_map, List.getElem?_eq_getElem (show i < ys.length by omega)]
    refine ⟨_, ys.map (·.2), hcs, ys.map (·.1), ⟨some x, cap, by simp [hys], by simp; omega, hm, fun h => (by cases h), fun y hy i hi => ?_⟩, by simp, fun i hi => ?_⟩
    · cases hy
      simp only [List.length_map, hys] at hi
      rw [(hq i hi).1]
      have := (hg i hi).1
      rw [List.getD_eq_getElem?_getD, List.getElem?_eq_getElem (by simpa [hys] using hi)] at this
      rw [← this]
      rfl
    · simp only [List.length_map, hys] at hi
      rw [(hg i hi).1, (hg i hi).2]
      exact (hq i hi).2
theorem RL.of_arg {t t2 e : TypeId} {v : Value} {d : DataW H} {p : List MemPlace} {r : Reach} {b0 : Nat} (ht : P.underlying t = some (.slice t2)) (hc2 : P.cellsOf t2 = 1) (ht2 : P.underlying t2 = some (.slice e)) (he : P.underlying e = some (.int .u8)) (hc : P.cellsOf e = 1)
    (hv : Value.okWide P w r b0 t v) (h : DataW.Trod enc P w base spare held t v d p) : ∃ ls, RL w v ls := by
  obtain ⟨a, n, c, rfl⟩ := okWide_slice ht hv
  obtain ⟨fuel, h⟩ := h
  obtain ⟨u, ls, e, hr⟩ := RL.of_cells ht hc2 ht2 he hc h
  simp [Value.cells] at e
  subst e
  exact ⟨ls, hr⟩
end
end Go.Proofs.YtdcbljfacmidjaaGreat

/- slices.Concat of any rows of bytes, some byte among them. -/
set_option linter.unusedVariables false
set_option linter.unusedSimpArgs false
namespace Go.Proofs.YtdcbljfacmidjaaGreat
open Go.RowKit

theorem flat_succ (ls : List (List UInt8)) (k : Nat) (h : k < ls.length) : (ls.take (k + 1)).flatten = (ls.take k).flatten ++ ls.getD k [] := by
  rw [List.take_succ_eq_append_getElem h, List.flatten_append, List.getD_eq_getElem?_getD, List.getElem?_eq_getElem h]
  simp
theorem flat_le (ls : List (List UInt8)) (k : Nat) : (ls.take k).flatten.length ≤ ls.flatten.length := by
  have e : ls.flatten = (ls.take k).flatten ++ (ls.drop k).flatten := by rw [← List.flatten_append, List.take_append_drop]
  rw [e, List.length_append]
  omega

set_option maxHeartbeats 2000000 in
theorem concat_rows (v : Value) (ls : List (List UInt8)) (w : World) (h : RL w v ls) (hp : 0 < ls.flatten.length) (hb : ls.flatten.length ≤ 1000000) (hn : ls.length ≤ 1000000) :
    Calls Tryz.prog 26 #[v] w fun e w' => (∃ v, e = .returned v ∧ Ow 5 w' w.heap.size v ls.flatten) ∧ Kp w w' := by
  have U := u8
  obtain ⟨a, c, rfl, h1, h2⟩ := h.shape
  unfold maxLen at h2
  have HG := Lib.hid (grow_any ls.flatten.length w hp hb)
  have HF := Lib.hid (flat_succ ls)
  have HL := Lib.hid (flat_le ls)
  have hall : (ls.take ls.length).flatten = ls.flatten := by rw [List.take_length]
  have HA := Lib.hid hall
  clear hall
  go_enter Tryz.func26, Tryz.ntmps26
  go_wp2_with fail
  go_loopw [3, 11] (fun s i wr => (∃ k : Nat, k ≤ ls.length ∧ i = .int .i64 k ∧ s = .int .i64 ((ls.take k).flatten.length : Int)) ∧ wr = w) (fun _ i _ => ls.length - (intOf i).toNat)
  case atStart => exact ⟨⟨0, by omega, rfl, rfl⟩, rfl⟩
  case round =>
    obtain ⟨⟨k, hk, rfl, rfl⟩, rfl⟩ := hrel
    rename World => w
    by_cases hlt : k < ls.length
    · obtain ⟨b, off, rfl, _, hcell⟩ := h.at k hlt
      obtain ⟨u, hcu, hru⟩ := hcell k hlt
      obtain ⟨au, cu, rfl, p1, p2⟩ := hru.shape
      have hs := congrArg List.length (HF.out k hlt)
      rw [List.length_append] at hs
      have hle := HL.out (k + 1)
      obtain ⟨N, hN⟩ : ∃ N, (ls.take k).flatten.length = N := ⟨_, rfl⟩
      obtain ⟨M, hM⟩ : ∃ M, (ls.getD k []).length = M := ⟨_, rfl⟩
      obtain ⟨T, hT⟩ : ∃ T, (ls.take (k + 1)).flatten.length = T := ⟨_, rfl⟩
      rw [hN, hM, hT] at hs
      rw [hT] at hle
      rw [hM] at hcu p1
      rw [hN]
      have b1 : (N : Int) + (M : Int) ≤ 1000000 := by omega
      have HT := Lib.hid (show (T : Int) = (N : Int) + (M : Int) by omega)
      have HT2 := Lib.hid hT
      unfold maxLen at p2
      clear hcell hru hs hN hM hT HG
      go_wp2_with fail
      go_roundw
      case rel => exact ⟨⟨k + 1, by omega, by go_num, by rw [HT2.out, HT.out]⟩, trivial⟩
      case measure => simp [intOf]; omega
    · obtain rfl : k = ls.length := by omega
      rw [HA.out]
      obtain ⟨F, hF⟩ : ∃ F, ls.flatten.length = F := ⟨_, rfl⟩
      rw [hF] at HG hp hb
      rw [hF]
      have HFL := Lib.hid hF
      clear hF
      go_wp2_with fail
      refine HG.out.mono ?_
      rintro e w1 ⟨⟨v, rfl, ho⟩, hk1⟩
      go_wp2_with fail
      go_loopw [6, 27] (fun u i wq => (∃ k : Nat, k ≤ ls.length ∧ i = .int .i64 k ∧ Ow 5 wq w.heap.size u (ls.take k).flatten) ∧ Kp w wq) (fun _ i _ => ls.length - (intOf i).toNat)
      case atStart => exact ⟨⟨0, by omega, rfl, ho⟩, hk1⟩
      case round =>
        clear ho hk1
        obtain ⟨⟨k, hk, rfl, ho⟩, hkp⟩ := hrel
        by_cases hlt : k < ls.length
        · obtain ⟨b, off, rfl, _, hcell⟩ := h.at k hlt
          obtain ⟨u, hcu, hru⟩ := hcell k hlt
          have hcu' := hkp.cell hcu
          have hru' := hru.kp hkp
          obtain ⟨au, cu, rfl, p1, p2⟩ := hru.shape
          have hs := congrArg List.length (HF.out k hlt)
          rw [List.length_append] at hs
          have hle := HL.out (k + 1)
          rw [HFL.out] at hle
          have hle2 : (List.take k ls).flatten.length + (ls.getD k []).length ≤ 1000000 := by omega
          have hsz := hkp.size
          have HFK := Lib.hid (HF.out k hlt)
          obtain ⟨X, hX⟩ : ∃ X, ls.getD k [] = X := ⟨_, rfl⟩
          obtain ⟨Y, hY⟩ : ∃ Y, (ls.take k).flatten = Y := ⟨_, rfl⟩
          rw [hX] at hcu' hru' p1 hle2 HFK
          rw [hY] at ho hle2 HFK
          unfold maxLen at p2
          clear hcell hru hs hcu hle HG hX hY
          go_wp2_with (at_builtin; refine wpList_append_ow U rfl _ _ rfl w.heap.size _ _ rfl ho _ X rfl hru' ?c1 hsz ?_; rotate_right; intro v' w2 ho2 hg2 _)
          case c1 => omega
          go_roundw
          case rel => exact ⟨⟨k + 1, by omega, by go_num, by rw [HFK.out]; exact ho2⟩, Kp.grown hkp hg2 ho.own_ge⟩
          case measure => simp [intOf]; omega
        · obtain rfl : k = ls.length := by omega
          rw [HA.out] at ho
          go_wp2_with fail
          go_ret
          exact ⟨⟨_, rfl, ho⟩, hkp⟩
end Go.Proofs.YtdcbljfacmidjaaGreat

/- append of rows of one-cell values, onto memory of the call's own. Nothing of a dump. -/
set_option linter.unusedVariables false
set_option linter.unusedSimpArgs false
namespace Go.Proofs.YtdcbljfacmidjaaGreat
open Go.RowKit

/-- The type t is a slice of e, an element of which is one cell of at most 64 bytes. -/
structure S1 (P : Program) (t e : TypeId) : Prop where
  ht : P.underlying t = some (.slice e)
  hi : ∃ i z, P.info? e = some i ∧ i.zero = some z ∧ i.size = 1 ∧ i.bytes ≤ 64 ∧ z.cells.size = 1
theorem S1.mk' {P : Program} {t e : TypeId} {z : Value} {b : Nat} (ht : P.underlying t = some (.slice e)) (h : (P.info? e).map (fun i => (i.zero, i.size, i.bytes)) = some (some z, 1, b)) (hb : b ≤ 64) (hz : z.cells.size = 1) : S1 P t e := by
  obtain ⟨i, hi, hz0, hz1, hz2⟩ := info_parts h
  exact ⟨ht, i, z, hi, hz0, hz1, by omega, hz⟩
theorem wpList_append_vals {P : Program} {w : World} {t e : TypeId} (S : S1 P t e) {ops : Array Oper} {rest : List Oper} {o : Oper} {a : Act} {Q : Exit → Act → World → Prop} (hgd : o.guard = none) (s x : Operand)
    (ho : o.op = .call { callee := .builtin .append, args := #[s, x], argTypes := #[t, t] })
    (B : Nat) (v : Value) (us : List Value) (hs : a.eval s = v) (hown : w.ownsRow B e 1 v us.length us) (u : Value) (ms : List Value) (hx : a.eval x = u) (hu : Vals w u ms) (h1 : ∀ z ∈ ms, z.oneCell' = true)
    (hlen : us.length + ms.length ≤ 1000000000000) (hbase : B ≤ w.heap.size)
    (h : ∀ v' w', w'.ownsRow B e 1 v' (us ++ ms).length (us ++ ms) → w.grownBy w' v.ownBlock → wpList P ops Q rest (a.put o.dst v') w') : wpList P ops Q (o :: rest) a w := by
  obtain ⟨i, z, hi, hz, hsize, hby, hzc⟩ := S.hi
  obtain ⟨ad, c, rfl, hc, hm, hnil, hcell⟩ := hu
  cases ad with
  | none =>
    have hc0 := hnil rfl
    have hm0 : ms = [] := List.eq_nil_of_length_eq_zero (by omega)
    subst hm0
    subst hc0
    refine wpList_append_own_none hgd s x t ho B e i 1 S.ht hi v us.length us hs hown hx ?_
    exact h v w (by simpa using hown) ⟨rfl, rfl, rfl, Nat.le_refl _, fun _ _ _ => rfl⟩
  | some ad =>
    refine wpList_append_own w hgd s x t ho B e i z 1 i.bytes S.ht hi hz hsize rfl hzc (by decide) v us.length us hs hown ad ms.length c ms hx (by omega) (fun j y hj => ?_) h1 (by unfold maxLen; omega) ?_ hbase
      (fun v' w' h1 h2 h3 => h v' w' (by rw [List.length_append]; exact h1) h2)
    · have hjl : j < ms.length := (List.getElem?_eq_some_iff.1 hj).1
      rw [List.getElem?_eq_getElem hjl] at hj
      cases hj
      exact hcell ad rfl j hjl
    · have := Nat.mul_le_mul hlen hby
      omega
/-- append(v, u...) as in wpList_append_ow, behind a guard that said yes. -/
theorem wp_append_ow {P : Program} {w : World} {t e : TypeId} (U : U8 P t e) {o : Oper} {a : Act} {K : Act → World → Prop} {Q : Exit → Act → World → Prop} (s x : Operand)
    (ho : o.op = .call { callee := .builtin .append, args := #[s, x], argTypes := #[t, t] })
    (B : Nat) (v : Value) (l : List UInt8) (hs : a.eval s = v) (hown : Ow e w B v l) (u : Value) (m : List UInt8) (hx : a.eval x = u) (hu : Rd w u m)
    (hlen : l.length + m.length ≤ 140737488355328) (hbase : B ≤ w.heap.size)
    (h : ∀ v' w', Ow e w' B v' (l ++ m) → w.grownBy w' v.ownBlock → (v' = .slice none 0 0 → l = [] ∧ m = []) → K (a.put o.dst v') w') : o.wp P a w K Q := by
  obtain ⟨i, hi, hz, hsize, hby⟩ := U.hi
  obtain ⟨ad, c, rfl, hc, hm, hnil, hcell⟩ := hu
  cases ad with
  | none =>
    have hc0 := hnil rfl
    have hm0 : m = [] := List.eq_nil_of_length_eq_zero (by omega)
    subst hm0
    subst hc0
    have hrun := run_append_owned_none (P := P) (w := w) B t o.type e i 1 U.ht hi v l.length (Lib.byteCells l) hown
    have h' := h v w (by simpa using hown) ⟨rfl, rfl, rfl, Nat.le_refl _, fun _ _ _ => rfl⟩ (fun e => by
      subst e
      rcases hown.shape with ⟨_, h⟩ | ⟨g, c, h, _⟩
      · exact ⟨h, rfl⟩
      · cases h)
    unfold Oper.wp
    simp [execOp, ho, resolve, invoke, builtin, hs, hx, hrun, Result.andThen]
    exact h'
  | some ad =>
    refine wp_append_own w s x t ho B e i (.int .u8 0) 1 1 U.ht hi hz hsize hby rfl (by decide) v l.length (Lib.byteCells l) hs hown ad m.length c (Lib.byteCells m) hx (by rw [byteCells_length]; omega) (fun j z hj => ?_) (fun z hz => ?_) (by unfold maxLen; omega) (by omega) hbase
      (fun v' w' h1 h2 h3 => h v' w' (by unfold Ow; rw [List.length_append, byteCells_append]; exact h1) h2 (fun e => ?_))
    · have hjl : j < m.length := by
        have := (List.getElem?_eq_some_iff.1 hj).1
        rwa [byteCells_length] at this
      rw [byteCells_get m j hjl] at hj
      cases hj
      exact hcell ad rfl j hjl
    · obtain ⟨b, _, rfl⟩ := List.mem_map.1 hz
      rfl
    · obtain ⟨e1, e2⟩ := h3.1 e
      subst e1
      rcases hown.shape with ⟨_, h⟩ | ⟨g, c, h, _⟩
      · exact ⟨h, List.eq_nil_of_length_eq_zero e2⟩
      · cases h
theorem Rd.one {w : World} {v : Value} {l : List UInt8} (h : Rd w v l) : v.oneCell' = true := by
  obtain ⟨a, c, rfl, _⟩ := h.shape
  rfl
/-- A literal of one value. -/
theorem own_lit1 (w : World) (e : TypeId) (u : Value) : (w.alloc (.cells #[u] e)).ownsRow w.heap.size e 1 (.slice (some ⟨w.heap.size, 0, none⟩) 1 1) [u].length [u] :=
  World.ownsRow_lit w #[u] 1 (Nat.le_refl _) (by unfold maxLen; omega) rfl
end Go.Proofs.YtdcbljfacmidjaaGreat

/- mac.behind, mac.tag, mac.Sum, mac.All. -/
set_option linter.unusedVariables false
set_option linter.unusedSimpArgs false
namespace Go.Proofs.YtdcbljfacmidjaaGreat
open Go.RowKit

theorem Tryz.info22 : (Tryz.prog.info? 22).map (fun i => (i.zero, i.size, i.bytes)) = some (some (.slice none 0 0), 1, 24) := by kernel_rfl
theorem s1rows : S1 Tryz.prog 60 22 := S1.mk' Tryz.underlying60 Tryz.info22 (by decide) rfl

set_option maxHeartbeats 1000000 in
theorem mac_behind (vb v : Value) (lb : List UInt8) (ls : List (List UInt8)) (w : World) (hb : Rd w vb lb) (h : RL w v ls) (hp : 0 < lb.length) (hl : lb.length + ls.flatten.length ≤ 2000) (hn : ls.length < 1000000) :
    Calls Tryz.prog 61 #[vb, v] w fun e w' => (∃ a c, e = .returned (.slice a 32 c) ∧ Ow 5 w' w.heap.size (.slice a 32 c) (digest (lb ++ ls.flatten))) ∧ Kp w w' := by
  have S := s1rows
  obtain ⟨us, hv, hul, hr⟩ := h
  have h1 : ∀ z ∈ us, z.oneCell' = true := fun z hz => by
    obtain ⟨i, hi, rfl⟩ := List.getElem_of_mem hz
    have := hr i (by omega)
    rw [List.getD_eq_getElem?_getD, List.getElem?_eq_getElem hi] at this
    exact this.one
  have HU := Lib.hid (And.intro hul h1)
  have hlen : us.length < 1000000 := by omega
  have HR := Lib.hid hr
  clear hul h1 hr
  obtain ⟨ab, cb, rfl, pb, qb⟩ := hb.shape
  obtain ⟨av, cv, rfl, pv, qv⟩ := hv.shape
  unfold maxLen at qb qv
  have HO := Lib.hid (own_lit1 w 22 (.slice ab lb.length cb))
  go_enter Tryz.func61, Tryz.ntmps61
  go_wp2_with (at_builtin; refine wpList_append_vals S rfl _ _ rfl w.heap.size _ [.slice ab lb.length cb] rfl HO.out _ us rfl (hv.kp ((Kp.refl _).alloc _)) HU.out.2 (by simp; omega) (by simp) ?_; intro v2 w2 ho2 hg2; have k2 : Kp w w2 := Kp.grown ((Kp.refl _).alloc _) hg2 (by intro k e; cases e; exact Nat.le_refl _))
  have hRL : RL w2 v2 (lb :: ls) := RL.cons ho2 (hb.kp k2) HU.out.1 (fun i hi => (HR.out i hi).kp k2)
  refine (concat_rows v2 (lb :: ls) w2 hRL (by rw [List.flatten_cons, List.length_append]; omega) (by rw [List.flatten_cons, List.length_append]; omega) (by simp; omega)).mono ?_
  rintro e w3 ⟨⟨v3, rfl, o3⟩, k3⟩
  go_wp2_with fail
  refine (sum_32o v3 (lb :: ls).flatten _ o3.rd (by rw [List.flatten_cons, List.length_append]; omega)).mono ?_
  rintro e w4 ⟨⟨a4, c4, rfl, r4⟩, k4⟩
  go_wp2_with fail
  go_ret
  exact ⟨⟨_, _, rfl, by simpa using r4.mono (k2.trans k3).size⟩, (k2.trans k3).trans k4⟩

set_option maxHeartbeats 1000000 in
theorem mac_tag (vk v : Value) (k : List UInt8) (ls : List (List UInt8)) (w : World) (hk : Rd w vk k) (h : RL w v ls) (hkl : k.length ≤ 2000) (hl : ls.flatten.length ≤ 1900) (hn : ls.length < 1000000) :
    Calls Tryz.prog 37 #[vk, v] w fun e w' => (∃ a c, e = .returned (.slice a 32 c) ∧ Ow 5 w' w.heap.size (.slice a 32 c) (macB k ls.flatten)) ∧ Kp w w' := by
  have S := s1rows
  have HK := Lib.hid (keyB_length k)
  have HM : Hid (macB k ls.flatten = digest (xorB (keyB k) 92 ++ digest (xorB (keyB k) 54 ++ ls.flatten))) := rfl
  have HX := Lib.hid (fun y : UInt8 => xorB_length (keyB k) y)
  obtain ⟨K, hK⟩ : ∃ K, keyB k = K := ⟨_, rfl⟩
  rw [hK] at HK HM HX
  have HD := Lib.hid digest_length
  have MK := Lib.hid (mac_key vk k w hk hkl)
  rw [hK] at MK
  clear hK
  go_enter Tryz.func37, Tryz.ntmps37
  go_wp2_with fail
  refine MK.out.mono ?_
  rintro e w1 ⟨⟨g1, rfl, b1, _⟩, k1⟩
  have r1 : Rd w1 (.slice (some ⟨g1, 0, none⟩) 64 64) K := b1.rdAll (by rw [HK.out]) (Nat.le_refl _) (by unfold maxLen; omega)
  go_wp2_with fail
  refine (mac_padded _ K 92 _ r1 (by rw [HK.out]; omega)).mono ?_
  rintro e w2 ⟨⟨g2, rfl, b2, _⟩, k2⟩
  have r2 : Rd w2 (.slice (some ⟨g2, 0, none⟩) 64 64) (xorB K 92) := b2.rdAll (by rw [HX.out, HK.out]) (Nat.le_refl _) (by unfold maxLen; omega)
  have hlk : K.length = 64 := HK.out
  rw [hlk]
  clear hlk
  go_wp2_with fail
  refine (mac_padded _ K 54 _ (r1.kp k2) (by rw [HK.out]; omega)).mono ?_
  rintro e w3 ⟨⟨g3, rfl, b3, _⟩, k3⟩
  have r3 : Rd w3 (.slice (some ⟨g3, 0, none⟩) 64 64) (xorB K 54) := b3.rdAll (by rw [HX.out, HK.out]) (Nat.le_refl _) (by unfold maxLen; omega)
  have hlk : K.length = 64 := HK.out
  rw [hlk]
  clear hlk
  go_wp2_with fail
  refine (mac_behind _ _ (xorB K 54) ls _ r3 (((h.kp k1).kp k2).kp k3) (by rw [HX.out, HK.out]; omega) (by rw [HX.out, HK.out]; omega) hn).mono ?_
  rintro e w4 ⟨⟨a4, c4, rfl, r4⟩, k4⟩
  have hRL : ∀ W, Kp w4 W → W.ownsRow w4.heap.size 22 1 (.slice (some ⟨w4.heap.size, 0, none⟩) 1 1) [Value.slice a4 32 c4].length [Value.slice a4 32 c4] → RL W (.slice (some ⟨w4.heap.size, 0, none⟩) 1 1) [digest (xorB K 54 ++ ls.flatten)] := fun W hW ho =>
    RL.cons (us := []) (ls := []) ho (r4.rd.kp hW) rfl (fun i hi => by simp at hi)
  go_wp2_with fail
  refine (mac_behind _ _ (xorB K 92) [digest (xorB K 54 ++ ls.flatten)] _ (((r2.kp k3).kp k4).kp ((Kp.refl _).alloc _)) (hRL _ ((Kp.refl _).alloc _) (own_lit1 _ _ _)) (by rw [HX.out, HK.out]; omega) (by rw [HX.out, HK.out]; simp [HD.out]) (by simp)).mono ?_
  rintro e w5 ⟨⟨a5, c5, rfl, r5⟩, k5⟩
  go_wp2_with fail
  go_ret
  exact ⟨⟨_, _, rfl, by rw [HM.out]; simpa using r5.mono ((((k1.trans k2).trans k3).trans k4).alloc _).size⟩, (((k1.trans k2).trans k3).trans k4).trans (((Kp.refl _).alloc _).trans k5)⟩

theorem mac_sum (vk v : Value) (k b : List UInt8) (w : World) (hk : Rd w vk k) (h : Rd w v b) (hkl : k.length ≤ 2000) (hl : b.length ≤ 1900) :
    Calls Tryz.prog 23 #[vk, v] w fun e w' => (∃ a c, e = .returned (.slice a 32 c) ∧ Ow 5 w' w.heap.size (.slice a 32 c) (macB k b)) ∧ Kp w w' := by
  have hRL : ∀ W, Kp w W → W.ownsRow w.heap.size 22 1 (.slice (some ⟨w.heap.size, 0, none⟩) 1 1) [v].length [v] → RL W (.slice (some ⟨w.heap.size, 0, none⟩) 1 1) [b] := fun W hW ho =>
    RL.cons (us := []) (ls := []) ho (h.kp hW) rfl (fun i hi => by simp at hi)
  obtain ⟨av, cv, rfl, pv, qv⟩ := h.shape
  go_enter Tryz.func23, Tryz.ntmps23
  go_wp2_with fail
  refine (mac_tag _ _ k [b] _ (hk.kp ((Kp.refl _).alloc _)) (hRL _ ((Kp.refl _).alloc _) (own_lit1 _ _ _)) hkl (by simpa using hl) (by simp)).mono ?_
  rintro e w5 ⟨⟨a5, c5, rfl, r5⟩, k5⟩
  go_wp2_with fail
  go_ret
  exact ⟨⟨_, _, rfl, by simpa using r5.mono ((Kp.refl _).alloc _).size⟩, ((Kp.refl _).alloc _).trans k5⟩
theorem mac_all (vk v : Value) (k : List UInt8) (ls : List (List UInt8)) (w : World) (hk : Rd w vk k) (h : RL w v ls) (hkl : k.length ≤ 2000) (hl : ls.flatten.length ≤ 1900) (hn : ls.length < 1000000) :
    Calls Tryz.prog 34 #[vk, v] w fun e w' => (∃ a c, e = .returned (.slice a 32 c) ∧ Ow 5 w' w.heap.size (.slice a 32 c) (macB k ls.flatten)) ∧ Kp w w' := by
  go_enter Tryz.func34, Tryz.ntmps34
  go_wp2_with fail
  refine (mac_tag _ _ k ls _ hk h hkl hl hn).mono ?_
  rintro e w5 ⟨⟨a5, c5, rfl, r5⟩, k5⟩
  go_wp2_with fail
  go_ret
  exact ⟨⟨_, _, rfl, r5⟩, k5⟩
end Go.Proofs.YtdcbljfacmidjaaGreat

/- pyxref03: Key, with, Sum, All, Long. -/
set_option linter.unusedVariables false
set_option linter.unusedSimpArgs false
namespace Go.Proofs.YtdcbljfacmidjaaGreat
open Go.RowKit

theorem blk_step (l : List UInt8) (k : Nat) : l ++ List.replicate k 0 ++ [0] = l ++ List.replicate (k + 1) 0 := by
  rw [List.append_assoc, List.replicate_succ']

set_option maxHeartbeats 1000000 in
theorem refKey_mac (v : Value) (l : List UInt8) (w : World) (h : Rd w v l) (hl : l.length ≤ 2000) :
    Calls Tryz.prog 49 #[v] w fun e w' => (∃ v', e = .returned v' ∧ Ow 5 w' w.heap.size v' (keyB l)) ∧ Kp w w' := by
  have U := u8
  obtain ⟨a, c, rfl, h1, h2⟩ := h.shape
  unfold maxLen at h2
  have HS := Lib.hid blk_step
  by_cases hlt : 64 < l.length
  · have hK : keyB l = digest l ++ List.replicate 32 0 := by unfold keyB blkB; rw [if_pos hlt, digest_length]
    rw [hK]
    have hR := digest_length l
    have hlt' : 64 < (l.length : Int) := by omega
    obtain ⟨D, hD⟩ : ∃ D, digest l = D := ⟨_, rfl⟩
    obtain ⟨R, hRR⟩ : ∃ R : Nat, R = 32 := ⟨_, rfl⟩
    have HO := Lib.hid (refSum_own (.slice a l.length c) l)
    rw [hD] at hR HO ⊢
    rw [show List.replicate 32 (0 : UInt8) = List.replicate R 0 from by rw [hRR]]
    have HR : Hid (D.length + R = 64) := by show _ = _; omega
    clear hK hD hR hRR
    go_enter Tryz.func49, Tryz.ntmps49
    go_wp2_with (at_builtin; refine wpList_append_ow U rfl _ _ rfl w.heap.size _ _ rfl (Ow.lit w 5 w.heap.size 0 #[] [] (Nat.le_refl _) rfl (by decide) rfl) _ l rfl (h.kp ((Kp.refl w).alloc _)) ?d1 ?d2 ?_; rotate_right; intro v2 w2 o2 g2 _; have k2 : Kp w w2 := Kp.grown ((Kp.refl w).alloc _) g2 (by intro k e; cases e; exact Nat.le_refl _); clear g2)
    case d1 => simp; omega
    case d2 => simp
    refine (HO.out _ (h.kp k2) hl).mono ?_
    rintro e wA ⟨⟨vA, rfl, oA0⟩, k3⟩
    have oA := oA0.mono k2.size
    have kA := k2.trans k3
    clear oA0 o2 k2 k3
    go_wp2_with fail
    have o3' : Ow 5 wA w.heap.size vA (D ++ List.replicate 0 0) := by simpa using oA
    clear oA
    go_loopw [3] (fun v wr => ∃ k : Nat, k ≤ R ∧ Ow 5 wr w.heap.size v (D ++ List.replicate k 0) ∧ Kp w wr) (fun v _ => match v with | .slice _ n _ => 64 - n | _ => 0)
    case atStart => exact ⟨0, by omega, o3', kA⟩
    case round =>
      clear o3' kA
      obtain ⟨k, hk, ho, hkp⟩ := hrel
      have hsz := hkp.size
      obtain ⟨av, cv, rfl, p1, p2⟩ := ho.rd.shape
      have hlen : (D ++ List.replicate k 0).length = D.length + k := by rw [List.length_append]; simp
      rw [hlen] at p1 ⊢
      rw [hlen] at ho
      unfold maxLen at p2
      by_cases hk2 : k < R
      · have HSk := Lib.hid (HS.out D k)
        generalize D ++ List.replicate k 0 = X at *
        have HLN := Lib.hid hlen
        clear hlen
        have hDR := HR.out
        have q : (D.length : Int) + (k : Int) < 64 := by omega
        have q' : D.length + k < 64 := by omega
        clear hDR
        go_wp2_with (at_builtin; refine wpList_append_ow U rfl _ _ rfl w.heap.size _ _ rfl (ho.kp ((Kp.refl _).alloc _)) _ [0] rfl (Ow.lit _ 5 0 1 _ _ (Nat.zero_le _) rfl (by decide) rfl).rd ?c1 ?c2 ?_; rotate_right; intro v' w2 ho2 hg _)
        case c1 => rw [HLN.out]; simp; omega
        case c2 => simp; omega
        go_roundw
        case rel => exact ⟨k + 1, by omega, by rw [← HSk.out]; exact ho2, Kp.grown (hkp.alloc _) hg ho.own_ge⟩
        case measure =>
          obtain ⟨a5, c5, rfl, _⟩ := ho2.rd.shape
          rw [List.length_append, HLN.out]
          simp
          omega
      · obtain rfl : k = R := by omega
        have hDR := HR.out
        have q : ¬ (D.length : Int) + (k : Int) < 64 := by omega
        have q' : ¬ D.length + k < 64 := by omega
        clear hDR hlen
        go_wp2_with fail
        go_ret
        exact ⟨⟨_, rfl, ho⟩, hkp⟩
  · have hK : keyB l = l ++ List.replicate (64 - l.length) 0 := by unfold keyB blkB; rw [if_neg hlt]
    rw [hK]
    have hlt' : ¬ 64 < (l.length : Int) := by omega
    obtain ⟨R, hRR⟩ : ∃ R : Nat, R = 64 - l.length := ⟨_, rfl⟩
    rw [← hRR]
    have HR : Hid (l.length + R = 64) := by show _ = _; omega
    clear hK hRR
    go_enter Tryz.func49, Tryz.ntmps49
    go_wp2_with (at_builtin; refine wpList_append_ow U rfl _ _ rfl w.heap.size _ _ rfl (Ow.lit w 5 w.heap.size 0 #[] [] (Nat.le_refl _) rfl (by decide) rfl) _ l rfl (h.kp ((Kp.refl w).alloc _)) ?d3 ?d4 ?_; rotate_right; intro v2 w2 o2 g2 _; have k2 : Kp w w2 := Kp.grown ((Kp.refl w).alloc _) g2 (by intro k e; cases e; exact Nat.le_refl _); clear g2)
    case d3 => omega
    have oA : Ow 5 w2 w.heap.size v2 l := by simpa using o2
    have kA := k2
    clear o2 k2
    have o3' : Ow 5 w2 w.heap.size v2 (l ++ List.replicate 0 0) := by simpa using oA
    clear oA
    go_loopw [3] (fun v wr => ∃ k : Nat, k ≤ R ∧ Ow 5 wr w.heap.size v (l ++ List.replicate k 0) ∧ Kp w wr) (fun v _ => match v with | .slice _ n _ => 64 - n | _ => 0)
    case atStart => exact ⟨0, by omega, o3', kA⟩
    case round =>
      clear o3' kA
      obtain ⟨k, hk, ho, hkp⟩ := hrel
      have hsz := hkp.size
      obtain ⟨av, cv, rfl, p1, p2⟩ := ho.rd.shape
      have hlen : (l ++ List.replicate k 0).length = l.length + k := by rw [List.length_append]; simp
      rw [hlen] at p1 ⊢
      rw [hlen] at ho
      unfold maxLen at p2
      by_cases hk2 : k < R
      · have HSk := Lib.hid (HS.out l k)
        generalize l ++ List.replicate k 0 = X at *
        have HLN := Lib.hid hlen
        clear hlen
        have hDR := HR.out
        have q : (l.length : Int) + (k : Int) < 64 := by omega
        have q' : l.length + k < 64 := by omega
        clear hDR
        go_wp2_with (at_builtin; refine wpList_append_ow U rfl _ _ rfl w.heap.size _ _ rfl (ho.kp ((Kp.refl _).alloc _)) _ [0] rfl (Ow.lit _ 5 0 1 _ _ (Nat.zero_le _) rfl (by decide) rfl).rd ?c3 ?c4 ?_; rotate_right; intro v' w2 ho2 hg _)
        case c3 => rw [HLN.out]; simp; omega
        case c4 => simp; omega
        go_roundw
        case rel => exact ⟨k + 1, by omega, by rw [← HSk.out]; exact ho2, Kp.grown (hkp.alloc _) hg ho.own_ge⟩
        case measure =>
          obtain ⟨a5, c5, rfl, _⟩ := ho2.rd.shape
          rw [List.length_append, HLN.out]
          simp
          omega
      · obtain rfl : k = R := by omega
        have hDR := HR.out
        have q : ¬ (l.length : Int) + (k : Int) < 64 := by omega
        have q' : ¬ l.length + k < 64 := by omega
        clear hDR hlen
        go_wp2_with fail
        go_ret
        exact ⟨⟨_, rfl, ho⟩, hkp⟩

set_option maxHeartbeats 1000000 in
theorem with_any (v : Value) (l : List UInt8) (y : UInt8) (w : World) (h : Rd w v l) (hl : l.length ≤ 1000000) :
    Calls Tryz.prog 51 #[v, .int .u8 (y.toNat : Int)] w fun e w' => (∃ v', e = .returned v' ∧ Ow 5 w' w.heap.size v' (xorB l y)) ∧ Kp w w' := by
  have U := u8
  obtain ⟨a, c, rfl, h1, h2⟩ := h.shape
  unfold maxLen at h2
  have hx : ∀ k, k < l.length → xorB (l.take (k + 1)) y = xorB (l.take k) y ++ [l.getD k 0 ^^^ y] := fun k hk => by rw [snoc_take l k hk, xorB_append]; rfl
  have HX := Lib.hid hx
  clear hx
  go_enter Tryz.func51, Tryz.ntmps51
  go_wp2_with fail
  go_loopw [5, 6] (fun v i wr => ∃ k : Nat, k ≤ l.length ∧ i = .int .i64 k ∧ Ow 5 wr w.heap.size v (xorB (l.take k) y) ∧ Kp w wr) (fun _ i _ => l.length - (intOf i).toNat)
  case atStart => exact ⟨0, by omega, rfl, Ow.nil _ _ _, Kp.refl _⟩
  case round =>
    obtain ⟨k, hk, rfl, ho, hkp⟩ := hrel
    have hsz := hkp.size
    by_cases hlt : k < l.length
    · obtain ⟨b, off, rfl, _, hcell⟩ := h.at k hlt
      have hc0 := hkp.cell (hcell k hlt)
      have hxo := ub8_xor (l.getD k 0) y
      have hlen : (xorB (l.take k) y).length = k := by rw [xorB_length]; simp; omega
      have HXk := Lib.hid (HX.out k hlt)
      generalize l.getD k 0 = x at *
      generalize hz : x ^^^ y = z at *
      generalize xorB (l.take k) y = L at *
      have HLN := Lib.hid hlen
      clear hlen hcell hz
      go_wp2_with (at_builtin; refine wpList_append_ow U rfl _ _ rfl w.heap.size _ _ rfl (ho.kp ((Kp.refl _).alloc _)) _ [z] rfl (Ow.lit _ 5 0 1 _ _ (Nat.zero_le _) rfl (by decide) rfl).rd ?c1 ?c2 ?_; rotate_right; intro v' w2 ho2 hg _)
      case c1 => rw [HLN.out]; simp; omega
      case c2 => simp; omega
      go_roundw
      case rel => exact ⟨k + 1, by omega, by go_num, by rw [HXk.out]; exact ho2, Kp.grown (hkp.alloc _) hg ho.own_ge⟩
      case measure => simp [intOf]; omega
    · obtain rfl : k = l.length := by omega
      rw [List.take_length] at ho
      go_wp2_with fail
      go_ret
      exact ⟨⟨_, rfl, ho⟩, hkp⟩

set_option maxHeartbeats 1000000 in
theorem refMac_sum (vk v : Value) (k b : List UInt8) (w : World) (hk : Rd w vk k) (h : Rd w v b) (hkl : k.length ≤ 2000) (hl : b.length ≤ 1900) :
    Calls Tryz.prog 28 #[vk, v] w fun e w' => (∃ v', e = .returned v' ∧ Ow 5 w' w.heap.size v' (macB k b)) ∧ Kp w w' := by
  have U := u8
  obtain ⟨av, cv, rfl, pv, qv⟩ := h.shape
  have HM : Hid (macB k b = digest (xorB (keyB k) 92 ++ digest (xorB (keyB k) 54 ++ b))) := rfl
  have HK := Lib.hid (keyB_length k)
  have HX := Lib.hid (fun y : UInt8 => xorB_length (keyB k) y)
  obtain ⟨K, hK⟩ : ∃ K, keyB k = K := ⟨_, rfl⟩
  have MK := Lib.hid (refKey_mac vk k w hk hkl)
  rw [hK] at HK HM HX MK
  have HD := Lib.hid digest_length
  clear hK
  go_enter Tryz.func28, Tryz.ntmps28
  go_wp2_with fail
  refine MK.out.mono ?_
  rintro e w1 ⟨⟨v1, rfl, o1⟩, k1⟩
  go_wp2_with fail
  refine (with_any _ K 54 _ o1.rd (by rw [HK.out]; omega)).mono ?_
  rintro e w2 ⟨⟨v2, rfl, o2⟩, k2⟩
  go_wp2_with (at_builtin; refine wpList_append_ow U rfl _ _ rfl w1.heap.size _ _ rfl o2 _ b rfl ((h.kp k1).kp k2) ?c1 k2.size ?_; rotate_right; intro v3 w3 o3 g3 _; have k3 : Kp w1 w3 := Kp.grown k2 g3 o2.own_ge; clear g3)
  case c1 => rw [HX.out, HK.out]; omega
  refine (refSum_own _ _ _ o3.rd (by rw [List.length_append, HX.out, HK.out]; omega)).mono ?_
  rintro e w4 ⟨⟨v4, rfl, o4⟩, k4⟩
  go_wp2_with fail
  refine (with_any _ K 92 _ (o1.rd.kp (k3.trans k4)) (by rw [HK.out]; omega)).mono ?_
  rintro e w5 ⟨⟨v5, rfl, o5⟩, k5⟩
  go_wp2_with (at_builtin; refine wpList_append_ow U rfl _ _ rfl w4.heap.size _ _ rfl o5 _ (digest (xorB K 54 ++ b)) rfl (o4.rd.kp k5) ?c2 k5.size ?_; rotate_right; intro v6 w6 o6 g6 _; have k6 : Kp w4 w6 := Kp.grown k5 g6 o5.own_ge; clear g6)
  case c2 => rw [HX.out, HK.out, HD.out]; omega
  refine (refSum_own _ _ _ o6.rd (by rw [List.length_append, HX.out, HK.out, HD.out]; omega)).mono ?_
  rintro e w7 ⟨⟨v7, rfl, o7⟩, k7⟩
  go_wp2_with fail
  go_ret
  exact ⟨⟨_, rfl, by rw [HM.out]; exact o7.mono (((k1.trans k3).trans k4).trans k6).size⟩, (((k1.trans k3).trans k4).trans k6).trans k7⟩

set_option maxHeartbeats 1000000 in
theorem refMac_all (vk v : Value) (k : List UInt8) (ls : List (List UInt8)) (w : World) (hk : Rd w vk k) (h : RL w v ls) (hkl : k.length ≤ 2000) (hl : ls.flatten.length ≤ 1900) (hn : ls.length < 1000000) :
    Calls Tryz.prog 55 #[vk, v] w fun e w' => (∃ v', e = .returned v' ∧ Ow 5 w' w.heap.size v' (macB k ls.flatten)) ∧ Kp w w' := by
  have U := u8
  obtain ⟨a, c, rfl, h1, h2⟩ := h.shape
  unfold maxLen at h2
  have HF := Lib.hid (flat_succ ls)
  have HL := Lib.hid (flat_le ls)
  have hall : (ls.take ls.length).flatten = ls.flatten := by rw [List.take_length]
  have HA := Lib.hid hall
  clear hall
  go_enter Tryz.func55, Tryz.ntmps55
  go_wp2_with fail
  go_loopw [5, 6] (fun v i wr => ∃ k : Nat, k ≤ ls.length ∧ i = .int .i64 k ∧ Ow 5 wr w.heap.size v (ls.take k).flatten ∧ Kp w wr) (fun _ i _ => ls.length - (intOf i).toNat)
  case atStart => exact ⟨0, by omega, rfl, Ow.nil _ _ _, Kp.refl _⟩
  case round =>
    obtain ⟨j, hj, rfl, ho, hkp⟩ := hrel
    have hsz := hkp.size
    by_cases hlt : j < ls.length
    · obtain ⟨b, off, rfl, _, hcell⟩ := h.at j hlt
      obtain ⟨u, hcu, hru⟩ := hcell j hlt
      have hcu' := hkp.cell hcu
      have hru' := hru.kp hkp
      have hs := congrArg List.length (HF.out j hlt)
      rw [List.length_append] at hs
      have hle := HL.out (j + 1)
      have hle2 : (List.take j ls).flatten.length + (ls.getD j []).length ≤ 1900 := by omega
      have HFK := Lib.hid (HF.out j hlt)
      generalize ls.getD j [] = X at *
      generalize (ls.take j).flatten = Y at *
      clear hcell hru hs hcu hle
      go_wp2_with (at_builtin; refine wpList_append_ow U rfl _ _ rfl w.heap.size _ _ rfl ho _ X rfl hru' ?c1 hsz ?_; rotate_right; intro v' w2 ho2 hg2 _)
      case c1 => omega
      go_roundw
      case rel => exact ⟨j + 1, by omega, by go_num, by rw [HFK.out]; exact ho2, Kp.grown hkp hg2 ho.own_ge⟩
      case measure => simp [intOf]; omega
    · obtain rfl : j = ls.length := by omega
      rw [HA.out] at ho
      go_wp2_with fail
      refine (refMac_sum _ _ k ls.flatten _ (hk.kp hkp) ho.rd hkl hl).mono ?_
      rintro e w3 ⟨⟨v3, rfl, o3⟩, k3⟩
      go_wp2_with fail
      go_ret
      exact ⟨⟨_, rfl, o3.mono hkp.size⟩, hkp.trans k3⟩

/-- How many bytes rows have, and how many they are. -/
def longB (ls : List (List UInt8)) : Nat := ls.flatten.length + ls.length
theorem long_succ (ls : List (List UInt8)) (k : Nat) (h : k < ls.length) : longB (ls.take (k + 1)) = longB (ls.take k) + 1 + (ls.getD k []).length := by
  unfold longB
  rw [flat_succ ls k h, List.length_append, List.length_take, List.length_take]
  omega
theorem long_le (ls : List (List UInt8)) (B : Nat) (hb : ∀ i, i < ls.length → (ls.getD i []).length ≤ B) : ∀ k, k ≤ ls.length → longB (ls.take k) ≤ k * (B + 1)
  | 0, _ => by simp [longB]
  | k + 1, h => by
    rw [long_succ ls k h, Nat.succ_mul]
    have := long_le ls B hb k (by omega)
    have := hb k h
    omega
end Go.Proofs.YtdcbljfacmidjaaGreat
