/- Texts: byt.Text, by a strings.Builder. -/
import Derived.Test.YtpaopnjknpoacaaRef2
import Derived.Test.YtpaopnjknpoacaaShelf
namespace Go.Proofs.Ytpaopnjknpoacaa
open Go.RowKit

set_option maxRecDepth 100000 in
set_option maxHeartbeats 400000 in
theorem copyCheck_used (b : Nat) (w : World) (h : w.cell? ⟨b, 0, none⟩ = some (.pointer (some ⟨b, 0, none⟩))) :
    Calls Try.prog 46 #[.pointer (some ⟨b, 0, none⟩)] w fun e w' => e = .returned (.tuple #[]) ∧ w = w' := by
  have hne : ∀ w, (binOp .neq 81 (.pointer (some ⟨b, 0, none⟩)) (.pointer (some ⟨b, 0, none⟩))).run Try.prog w = .ok (.bool false) w := by
    obtain ⟨j, hj⟩ : ∃ j, Try.prog.info? 83 = some j := ⟨_, rfl⟩
    exact fun w => Lib.run_neq_ptr_same w ⟨b, 0, none⟩ Try.underlying81 hj
  go_enter Try.func46, Try.ntmps46
  go_wp2
  go_end0
  exact ⟨rfl, rfl⟩

/-- A builder in block b, used, that holds the bytes l. -/
def Bu (w : World) (B b : Nat) (l : List UInt8) : Prop := Lib.BuilderAt 83 5 B b (.pointer (some ⟨b, 0, none⟩)) (Lib.byteCells l) w

set_option maxRecDepth 100000 in
set_option maxHeartbeats 800000 in
theorem writeByte_any (B b : Nat) (l : List UInt8) (x : Int) (c : UInt8) (w : World) (h : Bu w B b l) (hx : x = c.toNat) (hlen : l.length ≤ 1099511627776) (hBw : B ≤ w.heap.size) :
    Calls Try.prog 43 #[.pointer (some ⟨b, 0, none⟩), .int .u8 x] w fun e w' => e = .returned .nilIface ∧ Bu w' B b (l ++ [c]) ∧ Below B w w' := by
  have U := u8
  have HX := Lib.hid hx
  clear hx
  obtain ⟨hB, v, hbk, hown0, hne⟩ := h
  have hown : Ow 5 w B v l := by unfold Ow; rw [byteCells_length] at hown0; exact hown0
  clear hown0
  have c0 : w.cell? ⟨b, 0, none⟩ = some (.pointer (some ⟨b, 0, none⟩)) := by rw [Lib.cell_of_heap hbk]; rfl
  have c1 : w.cell? ⟨b, 1, none⟩ = some v := by rw [Lib.cell_of_heap hbk]; rfl
  go_enter Try.func43, Try.ntmps43
  go_wp2_with (first
    | (go_at_call 46; refine (copyCheck_used b _ c0).mono ?_; rintro e w' ⟨rfl, rfl⟩)
    | (at_builtin; refine wpList_append_ow U rfl _ _ rfl B v l rfl (hown.kp ((Kp.refl _).alloc _)) _ [c] rfl ?c1 ?c2 ?c3 ?_))
  case c1 => exact Rd.box w 5 x c HX.out
  case c2 => simp; omega
  case c3 => simp; omega
  intro v' w2 hown' hgrow hnil
  have hlt : b < w.heap.size := by
    rcases Nat.lt_or_ge b w.heap.size with h' | h'
    · exact h'
    · simp [Array.getElem?_eq_none h'] at hbk
  have hb2 : w2.heap[b]? = some (.cells #[.pointer (some ⟨b, 0, none⟩), v] 83 (0, 0)) := by
    rw [hgrow.block b (by simp; omega) (fun e => hne e.symm), Below.heap_alloc w _ b hlt]
    exact hbk
  have d0 : w2.cell? ⟨b, 0, none⟩ = some (.pointer (some ⟨b, 0, none⟩)) := by rw [Lib.cell_of_heap hb2]; rfl
  have d1 : w2.cell? ⟨b, 1, none⟩ = some v := by rw [Lib.cell_of_heap hb2]; rfl
  have f1 : w2.frozen? ⟨b, 1, none⟩ = false := Lib.frozen_of_heap hb2 1
  obtain ⟨g, cap, rfl⟩ : ∃ g cap, v' = .slice (some ⟨g, 0, none⟩) (l.length + 1) cap := by
    rcases hown'.shape with ⟨_, h0⟩ | ⟨g, cap, hv, _⟩
    · simp at h0
    · exact ⟨g, cap, by simpa using hv⟩
  go_wp2
  go_ret
  refine ⟨rfl, ?_, ?_⟩
  · have hp := Lib.BuilderAt.put (T := 83) (e := 5) hB hb2 (bs' := Lib.byteCells (l ++ [c])) (by rw [byteCells_length]; exact hown') (by decide)
    exact hp
  · exact (Below.grown' ((Below.refl B w).alloc hBw _) hgrow (by simp; omega) (hown.kp ((Kp.refl _).alloc _))).setCell (p := ⟨b, 1, none⟩) hB _

/-- A figure's sign. -/
def hexB (n : Nat) : UInt8 := if n < 10 then UInt8.ofNat (48 + n) else UInt8.ofNat (87 + n)
/-- The text of bytes. -/
def textB (x : List UInt8) : List UInt8 := x.flatMap fun b => [hexB (b.toNat / 16), hexB (b.toNat % 16)]
theorem textB_length (x : List UInt8) : (textB x).length = 2 * x.length := by
  induction x with
  | nil => rfl
  | cons b x ih => simp only [textB, List.flatMap_cons, List.length_append, List.length_cons, List.length_nil] at ih ⊢; omega
theorem textB_snoc (x : List UInt8) (b : UInt8) : textB (x ++ [b]) = textB x ++ [hexB (b.toNat / 16)] ++ [hexB (b.toNat % 16)] := by
  simp [textB, List.flatMap_append]

theorem fig_all : ∀ n : Fin 16, ((⟨#[48, 49, 50, 51, 52, 53, 54, 55, 56, 57, 97, 98, 99, 100, 101, 102]⟩ : ByteArray)[n.val]'(by have := n.isLt; exact this)) = hexB n.val := by decide
theorem fig (n : Nat) (h : n < 16) : ((⟨#[48, 49, 50, 51, 52, 53, 54, 55, 56, 57, 97, 98, 99, 100, 101, 102]⟩ : ByteArray)[n]'h) = hexB n := fig_all ⟨n, h⟩

set_option maxRecDepth 100000 in
set_option maxHeartbeats 800000 in
theorem text_any (v : Value) (l : List UInt8) (w : World) (h : Rd w v l) (hl : l.length ≤ 1000000) :
    Calls Try.prog 31 #[v] w fun e w' => e = .returned (.string ⟨(textB l).toArray⟩) ∧ Kp w w' := by
  obtain ⟨a, c, rfl, hc, hm⟩ := h.shape
  unfold maxLen at hm
  have hgrow : ∀ (n : Int) (W : World), 0 ≤ n → n ≤ 2000000 → Hid (w.heap.size ≤ W.heap.size) → W.heap[w.heap.size]? = some (.cells #[.pointer none, .slice none 0 0] 83 (0, 0)) →
      Calls Try.prog 42 #[.pointer (some ⟨w.heap.size, 0, none⟩), .int .i64 n] W fun e w' => e = .returned (.tuple #[]) ∧ Bu w' w.heap.size w.heap.size [] ∧ Below w.heap.size W w' := by
    intro n W h0 h1 h2 h3
    obtain ⟨n, rfl⟩ := Int.eq_ofNat_of_zero_le h0
    exact Try.Builder_Grow_fresh w.heap.size w.heap.size n W (Nat.le_refl _) h3 h2 (by omega)
  have HG := Lib.hid hgrow
  clear hgrow
  go_enter Try.func31, Try.ntmps31
  go_wp2_with (go_at_call 42; refine (HG.out _ _ (by omega) (by omega) (by show _ ≤ _; simp) (heap_alloc_new w _)).mono ?_; rintro e w1 ⟨rfl, hbu, hbel⟩)
  have hk1 : Below w.heap.size w w1 := Below.trans ((Below.refl _ w).alloc (Nat.le_refl _) _) hbel
  generalize hB : w.heap.size = B at *
  have HB := Lib.hid hB
  clear hB hbel
  go_loopw [12] (fun i wr => ∃ k : Nat, k ≤ l.length ∧ i = .int .i64 k ∧ Bu wr B B (textB (l.take k)) ∧ Below B w wr) (fun i _ => l.length - (intOf i).toNat)
  case atStart => exact ⟨0, Nat.zero_le _, rfl, hbu, hk1⟩
  case round =>
    obtain ⟨k, hk, rfl, hbr, hbel⟩ := hrel
    by_cases hlt : k < l.length
    · obtain ⟨b, off, rfl, hbB, hcell⟩ := h.at k hlt
      have hc0 := (hbel.cell (by rw [← HB.out]; exact hbB)).trans (hcell k hlt)
      obtain ⟨y, hy⟩ : ∃ y : Nat, y = (l.getD k 0).toNat := ⟨_, rfl⟩
      have hy2 : (y : Int) < 256 := by have := (l.getD k 0).toNat_lt; omega
      rw [← hy] at hc0
      have hand : bits .and .u8 (y : Int) 15 = (y : Int) % 16 := u8_and15 _ (by omega) hy2
      have h16 : y / 16 < 16 := by omega
      have hm16 : y % 16 < 16 := by omega
      have hBs : B ≤ wr.heap.size := by have := hbel.size; rw [← HB.out]; exact this
      have hlen1 : (textB (l.take k)).length ≤ 2000000 := by rw [textB_length]; simp; omega
      have hts : textB (l.take (k + 1)) = textB (l.take k) ++ [hexB (y / 16)] ++ [hexB (y % 16)] := by rw [snoc_take l k hlt, textB_snoc, hy]
      have HT := Lib.hid hts
      clear hcell hts
      have HY := Lib.hid hy
      clear hy
      go_wp2_with fail
      refine (writeByte_any B B _ _ (hexB (y / 16)) wr hbr (by rw [fig _ h16]) (by omega) hBs).mono ?_
      rintro e wr1 ⟨rfl, hbr1, hbe1⟩
      have hs1 := hbe1.size
      have hc1 := (hbe1.cell (by rw [← HB.out]; exact hbB)).trans hc0
      go_wp2_with fail
      refine (writeByte_any B B _ _ (hexB (y % 16)) wr1 hbr1 (by rw [fig _ hm16]) (by simp; omega) (by omega)).mono ?_
      rintro e wr2 ⟨rfl, hbr2, hbe2⟩
      go_wp2_with fail
      go_roundw
      case rel => exact ⟨k + 1, by omega, by go_num, by rw [HT.out]; exact hbr2, (hbel.trans hbe1).trans hbe2⟩
      case measure => simp [intOf]; omega
    · have hkl : l.take k = l := List.take_of_length_le (by omega)
      rw [hkl] at hbr
      have hBs : B ≤ wr.heap.size := by have := hbel.size; rw [← HB.out]; exact this
      go_wp2_with (go_at_call 44; refine (Try.Builder_String_any B B (textB l) _ (.inr hbr) hBs).mono ?_; rintro e wr1 ⟨rfl, hbe1⟩)
      go_ret
      exact ⟨rfl, by unfold Kp; rw [HB.out]; exact hbel.trans hbe1⟩
end Go.Proofs.Ytpaopnjknpoacaa
