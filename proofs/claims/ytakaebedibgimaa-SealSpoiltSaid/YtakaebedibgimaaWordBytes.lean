/- sha.wordBytes. -/
import Derived.Test.YtakaebedibgimaaRefPad
import Derived.Test.YtakaebedibgimaaBlock
set_option linter.unusedVariables false
set_option linter.unusedSimpArgs false
namespace Go.Proofs.Ytakaebedibgimaa
open Go.RowKit

def bytesTo (s : S8) (i : Nat) : List UInt8 := (s.list.take i).flatMap bytes4
theorem bytesTo_succ (s : S8) (i : Nat) (h : i < 8) : bytesTo s (i + 1) = bytesTo s i ++ bytes4 (s.list.getD i 0) := by
  unfold bytesTo
  have h' : i < s.list.length := h
  rw [List.take_succ_eq_append_getElem h', List.flatMap_append, List.getD_eq_getElem?_getD, List.getElem?_eq_getElem h']
  simp
theorem bytesTo_length (s : S8) : ∀ i, i ≤ 8 → (bytesTo s i).length = 4 * i
  | 0, _ => rfl
  | i + 1, h => by rw [bytesTo_succ s i h, List.length_append, bytesTo_length s i (by omega)]; simp [bytes4]; omega
theorem bytesTo_all (s : S8) : bytesTo s 8 = s.bytes := rfl
theorem bytes_length (s : S8) : s.bytes.length = 32 := bytesTo_length s 8 (by omega)
/-- The four bytes of a word, as the walk meets them. -/
theorem bytes4_parts (x : UInt32) : ∃ b0 b1 b2 b3 : UInt8, bytes4 x = [b0, b1, b2, b3] ∧ IntKind.u8.wrap (u x / 16777216) = (b0.toNat : Int) ∧ IntKind.u8.wrap (u x / 65536) = (b1.toNat : Int) ∧ IntKind.u8.wrap (u x / 256) = (b2.toNat : Int) ∧ IntKind.u8.wrap (u x) = (b3.toNat : Int) := by
  refine ⟨_, _, _, _, rfl, ?_, ?_, ?_, ?_⟩ <;> rw [IntKind.wrap_u8] <;> unfold u <;> simp

set_option maxRecDepth 100000 in
set_option maxHeartbeats 1000000 in
theorem wordBytes_any (s : S8) (w : World) :
    Calls Try.prog 90 #[.agg (wcells s.list)] w fun e w' => (∃ v, e = .returned v ∧ Ow 5 w' w.heap.size v s.bytes) ∧ Kp w w' := by
  have U := u8
  obtain ⟨i0, hi, hz0, hz1, hz2⟩ := info_parts Try.info5
  have HBB : i0.bytes = 1 := hz2
  have HB3 := Lib.hid HBB
  clear HBB hz2
  have hB0 : Arr 90 (w.alloc (.cells (wcells s.list) 90)) w.heap.size s.list := Arr.new _ w _ s.list rfl
  go_enter Try.func90, Try.ntmps90
  go_wp2_with (first
    | (at_make; refine wpList_make_own _ rfl _ _ 22 rfl w.heap.size 5 i0 (.int .u8 0) 1 Try.underlying22 hi hz0 hz1 _ _ _ 32 rfl rfl rfl ?b1 ?b2 ?b3 ?_; rotate_right; intro w1 hown hgr; have hkw : Kp (w.alloc (.cells (wcells s.list) 90)) w1 := Below.grown (Below.refl _ _) hgr (Nat.le_refl _) (fun k e => by cases e); have hB1 := hB0.kp hkw; clear hgr)
    | (refine wpList_load_arr Try.underlying90 (by kernel_rfl) rfl (.tmp 1) rfl w.heap.size s.list rfl hB1 rfl ?_))
  case b1 => rw [HB3.out]; omega
  case b2 => unfold maxLen; omega
  case b3 => simp
  have ho1 : Ow 5 w1 w.heap.size (.slice (some ⟨w.heap.size + 1, 0, none⟩) 0 32) [] := by
    rw [World.size_alloc] at hown
    exact hown
  have hk1 : Kp w w1 := ((Kp.refl w).alloc _).trans hkw
  clear hown hkw hB0 hB1 hz0 hz1 hi HB3
  go_loopw [3, 8] (fun v i wr => ∃ k : Nat, k ≤ 8 ∧ i = .int .i64 k ∧ Ow 5 wr w.heap.size v (bytesTo s k) ∧ Kp w wr) (fun _ i _ => 8 - (intOf i).toNat)
  case atStart => exact ⟨0, by omega, rfl, ho1, hk1⟩
  case round =>
    clear ho1 hk1
    obtain ⟨k, hk, rfl, hown, hkp⟩ := hrel
    by_cases hlt : k < 8
    · have hidx : ∀ W, (Instr.index 90 (.agg (wcells s.list)) (.int .i64 k)).run Try.prog W = .ok (.int .u32 (u (s.list.getD k 0))) W := fun W => by
        obtain ⟨ie, hie, hsz⟩ := u32_info
        exact run_index_arr W 90 48 8 ie _ Try.underlying90 hie hsz Try.underlying48 rfl _ rfl k hlt _ (wcells_get s.list k hlt)
      have hs := bytesTo_succ s k hlt
      have hlen := bytesTo_length s k (by omega)
      generalize s.list.getD k 0 = x at *
      obtain ⟨b0, b1, b2, b3, h4, v0, v1, v2, v3⟩ := bytes4_parts x
      rw [h4] at hs
      generalize bytesTo s k = L at *
      have HS := Lib.hid hs
      have HL := Lib.hid hlen
      clear hs hlen h4
      generalize wcells s.list = cs at *
      go_wp2_with (at_builtin; refine wpList_append_ow U rfl _ _ rfl w.heap.size _ _ rfl (hown.kp ((Kp.refl _).alloc _)) _ [b0, b1, b2, b3] rfl (Ow.lit _ 5 0 4 _ _ (Nat.zero_le _) rfl (by decide) rfl).rd ?c1 ?c2 ?_; rotate_right; intro v' w2 ho2 hg _)
      case c1 => rw [HL.out]; simp; omega
      case c2 => have := hkp.size; simp; omega
      go_roundw
      case rel => exact ⟨k + 1, by omega, by go_num, by rw [HS.out]; exact ho2, Kp.grown (hkp.alloc _) hg hown.own_ge⟩
      case measure => simp [intOf]; omega
    · obtain rfl : k = 8 := by omega
      go_wp2_with fail
      go_ret
      exact ⟨⟨_, rfl, hown⟩, hkp⟩
end Go.Proofs.Ytakaebedibgimaa
