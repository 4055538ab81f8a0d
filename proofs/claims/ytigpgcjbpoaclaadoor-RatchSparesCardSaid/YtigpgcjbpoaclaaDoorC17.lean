import Derived.Test.YtigpgcjbpoaclaaDoorC1
import Derived.Test.YtigpgcjbpoaclaaDoorC13
import Derived.Test.YtigpgcjbpoaclaaDoorC16
import Derived.Laws.AppendOwn
import Derived.Deep.RegionLaw
import Derived.Lib.AppendZerosOnto
set_option linter.unusedVariables false
set_option linter.unusedSimpArgs false
namespace Go.Proofs.YtigpgcjbpoaclaaDoor
open Go.RowKit
def bytesTo (s : S8) (i : Nat) : List UInt8 := (s.list.take i).flatMap bytes4
theorem bytesTo_succ (s : S8) (i : Nat) (h : i < 8) : bytesTo s (i + 1) = bytesTo s i ++ bytes4 (s.list.getD i 0) := by
  unfold bytesTo
  have h' : i < s.list.length := h
  rw [List.take_succ_eq_append_getElem h', List.flatMap_append, List.getD_eq_getElem?_getD, List.getElem?_eq_getElem h']
  simp
theorem bytesTo_length (s : S8) : ∀ i, i ≤ 8 → (bytesTo s i).length = 4 * i
  | 0, _ => rfl
  | i + 1, h => by rw [bytesTo_succ s i h, List.length_append, bytesTo_length s i (by omega)]; simp [bytes4]; omega
theorem bytes_length (s : S8) : s.bytes.length = 32 := bytesTo_length s 8 (by omega)
theorem bytes4_parts (x : UInt32) : ∃ b0 b1 b2 b3 : UInt8, bytes4 x = [b0, b1, b2, b3] ∧ IntKind.u8.wrap (u x / 16777216) = (b0.toNat : Int) ∧ IntKind.u8.wrap (u x / 65536) = (b1.toNat : Int) ∧ IntKind.u8.wrap (u x / 256) = (b2.toNat : Int) ∧ IntKind.u8.wrap (u x) = (b3.toNat : Int) := by
  refine ⟨_, _, _, _, rfl, ?_, ?_, ?_, ?_⟩ <;> rw [IntKind.wrap_u8] <;> unfold u <;> simp
set_option maxRecDepth 100000 in
set_option maxHeartbeats 1000000 in
theorem wordBytes_any (s : S8) (w : World) :
    Calls Tryd.prog 94 #[.agg (wcells s.list)] w fun e w' => (∃ v, e = .returned v ∧ Ow 5 w' w.heap.size v s.bytes) ∧ Kp w w' := by
  have U := u8
  obtain ⟨i0, hi, hz0, hz1, hz2⟩ := info_parts Tryd.info5
  have HBB : i0.bytes = 1 := hz2
  have HB3 := Lib.hid HBB
  clear HBB hz2
  have hB0 : Arr 87 (w.alloc (.cells (wcells s.list) 87)) w.heap.size s.list := Arr.new _ w _ s.list rfl
  go_enter Tryd.func94, Tryd.ntmps94
  go_wp2_with (first
    | (at_make; refine wpList_make_own _ rfl _ _ 22 rfl w.heap.size 5 i0 (.int .u8 0) 1 Tryd.underlying22 hi hz0 hz1 _ _ _ 32 rfl rfl rfl ?b1 ?b2 ?b3 ?_; rotate_right; intro w1 hown hgr; have hkw : Kp (w.alloc (.cells (wcells s.list) 87)) w1 := Below.grown (Below.refl _ _) hgr (Nat.le_refl _) (fun k e => by cases e); have hB1 := hB0.kp hkw; clear hgr)
    | (refine wpList_load_arr Tryd.underlying87 (by kernel_rfl) rfl (.tmp 1) rfl w.heap.size s.list rfl hB1 rfl ?_))
  case b1 => rw [HB3.out]; omega
  case b2 => unfold maxLen; omega
  case b3 => simp
  have ho1 : Ow 5 w1 w.heap.size (.slice (some ⟨w.heap.size + 1, 0, none⟩) 0 32) [] := by
    rw [World.size_alloc] at hown
    exact hown
  have hk1 : Kp w w1 := ((Kp.refl w).alloc _).trans hkw
  clear hown hkw hB0 hB1 hz0 hz1 hi HB3
  go_loopw [3, 8] (fun v i wr => ∃ k : Nat, k ≤ 8 ∧ i = .int .i64 k ∧ Ow 5 wr w.heap.size v (bytesTo s k) ∧ Kp w wr) (fun _ i _ => 8 - (intOf i).toNat)
  case atStart => exact ⟨0, by omega, rfl, ho1, hk1⟩
  case round =>
    clear ho1 hk1
    obtain ⟨k, hk, rfl, hown, hkp⟩ := hrel
    by_cases hlt : k < 8
    · have hidx : ∀ W, (Instr.index 87 (.agg (wcells s.list)) (.int .i64 k)).run Tryd.prog W = .ok (.int .u32 (u (s.list.getD k 0))) W := fun W => by
        obtain ⟨ie, hie, hsz⟩ := u32_info
        exact run_index_arr W 87 86 8 ie _ Tryd.underlying87 hie hsz Tryd.underlying86 rfl _ rfl k hlt _ (wcells_get s.list k hlt)
      have hs := bytesTo_succ s k hlt
      have hlen := bytesTo_length s k (by omega)
      generalize s.list.getD k 0 = x at *
      obtain ⟨b0, b1, b2, b3, h4, v0, v1, v2, v3⟩ := bytes4_parts x
      rw [h4] at hs
      generalize bytesTo s k = L at *
      have HS := Lib.hid hs
      have HL := Lib.hid hlen
      clear hs hlen h4
      generalize wcells s.list = cs at *
      go_wp2_with (at_builtin; refine wpList_append_ow U rfl _ _ rfl w.heap.size _ _ rfl (hown.kp ((Kp.refl _).alloc _)) _ [b0, b1, b2, b3] rfl (Ow.lit _ 5 0 4 _ _ (Nat.zero_le _) rfl (by decide) rfl).rd ?c1 ?c2 ?_; rotate_right; intro v' w2 ho2 hg _)
      case c1 => rw [HL.out]; simp; omega
      case c2 => have := hkp.size; simp; omega
      go_roundw
      case rel => exact ⟨k + 1, by omega, by go_num, by rw [HS.out]; exact ho2, Kp.grown (hkp.alloc _) hg hown.own_ge⟩
      case measure => simp [intOf]; omega
    · obtain rfl : k = 8 := by omega
      go_wp2_with fail
      go_ret
      exact ⟨⟨_, rfl, hown⟩, hkp⟩
theorem blocks_succ (s : S8) (l : List UInt8) (k : Nat) : blocks s l (k + 1) = comp keyL (blocks s l k) ((l.drop (64 * k)).take 64) := by rw [blocks]
theorem padOf_nat (n : Nat) (h : n ≤ 2000) : padOf (n : Int) = pad n := by
  unfold padOf
  rw [if_pos (by omega), Int.toNat_natCast]
theorem blocks_prefix (s : S8) (l m : List UInt8) : ∀ k, 64 * k ≤ l.length → blocks s (l ++ m) k = blocks s l k
  | 0, _ => rfl
  | k + 1, h => by
    rw [blocks_succ, blocks_succ, blocks_prefix s l m k (by omega), List.drop_append_of_le_length (by omega), List.take_append_of_le_length (by simp; omega)]
theorem blocks_add (s : S8) (P : List UInt8) (a : Nat) : ∀ k, blocks (blocks s P a) (P.drop (64 * a)) k = blocks s P (a + k)
  | 0 => rfl
  | k + 1 => by
    rw [blocks_succ, blocks_add s P a k, List.drop_drop, show a + (k + 1) = (a + k) + 1 by omega, blocks_succ, show 64 * a + 64 * k = 64 * (a + k) by omega]
theorem digest_split (l : List UInt8) (N M : Nat) (hN : N = l.length / 64) (hM : 64 * M = (l.drop (64 * N) ++ pad l.length).length) :
    digest l = (blocks (blocks startS l N) (l.drop (64 * N) ++ pad l.length) M).bytes := by
  have h1 : (padded l).length = 64 * (N + M) := by
    unfold padded
    rw [List.length_append] at hM ⊢
    rw [List.length_drop] at hM
    omega
  have h2 : (padded l).length / 64 = N + M := by omega
  have h3 : l.drop (64 * N) ++ pad l.length = (padded l).drop (64 * N) := by
    unfold padded
    rw [List.drop_append_of_le_length (by omega)]
  unfold digest
  rw [h2, h3, ← blocks_add]
  have h4 : blocks startS (padded l) N = blocks startS l N := blocks_prefix _ _ _ _ (by omega)
  rw [h4]
theorem tail_whole (l : List UInt8) (N : Nat) (hN : N = l.length / 64) : 64 * ((l.drop (64 * N) ++ pad l.length).length / 64) = (l.drop (64 * N) ++ pad l.length).length := by
  have := pad_whole l.length
  rw [List.length_append, List.length_drop]
  omega
theorem wpList_append_run {P : Program} {ops : Array Oper} {rest : List Oper} {o : Oper} {a : Act} {w w' : World} {Q : Exit → Act → World → Prop} (hgd : o.guard = none) (s x : Operand) (t tn : TypeId)
    (ho : o.op = .call { callee := .builtin .append, args := #[s, x], argTypes := #[t, tn] }) (vs vx v : Value) (hs : a.eval s = vs) (hx : a.eval x = vx)
    (hrun : (Builtin.append_ #[t, tn] o.type #[vs, vx]).run P w = .ok v w') (h : wpList P ops Q rest (a.put o.dst v) w') : wpList P ops Q (o :: rest) a w := by
  refine wpList_plain hgd fun K hK => ?_
  unfold Oper.wp
  simp [execOp, ho, resolve, invoke, builtin, hs, hx, hrun, Result.andThen]
  exact hK _ _ h
set_option maxHeartbeats 1000000 in
theorem grow_any (n : Nat) (w : World) (h0 : 0 < n) (h1 : n ≤ 1000000) :
    Calls Tryd.prog 81 #[.slice none 0 0, .int .i64 n] w fun e w' => (∃ v, e = .returned v ∧ Ow 5 w' w.heap.size v []) ∧ Kp w w' := by
  obtain ⟨i0, hi, hz0, hz1, hz2⟩ := info_parts Tryd.info5
  have hold : (Builtin.firstCells i0.size 0 (.slice none 0 0)).run Tryd.prog w.drew = .ok ([] : List Value).toArray w.drew := rfl
  have hrz : ∀ ty, (Builtin.append_ #[22, 3] ty #[.slice none 0 0, .int .i64 (n : Int)]).run Tryd.prog w =
      .ok (.slice (some ⟨w.heap.size, 0, none⟩) n (grownCap w n 0 5)) (w.drew.alloc (.cells (#[] ++ Builtin.zeroCells (Value.int .u8 0).cells n ++ Builtin.zeroCells (Value.int .u8 0).cells (grownCap w n 0 5 - n)) 5)) := fun ty => by
    have h := Lib.run_append_grow_zeros w 22 3 ty 5 i0 (.int .u8 0) .i64 .i64 Tryd.underlying22 Tryd.underlying3 hi hz0 none 0 0 [] hold n h0 (by omega) (by omega) (by omega) (by rw [hz2]; omega)
      (by rw [hz2]; have := growslice_fits (need := 0 + n) (old := 0) (bytes := 1) (by omega) (by omega); exact this)
    simpa using h
  have hge : n ≤ grownCap w n 0 5 := grownCap_ge w _ _ _
  have hle := grownCap_le_maxLen w n 0 5 (by unfold maxLen; omega)
  generalize grownCap w n 0 5 = G at *
  unfold maxLen at hle
  have hn0 : ¬ (n : Int) < 0 := by omega
  have hn1 : 0 < (n : Int) := by omega
  clear hold
  go_enter Tryd.func81, Tryd.ntmps81
  have hcs : (#[] ++ Builtin.zeroCells (Value.int .u8 0).cells n ++ Builtin.zeroCells (Value.int .u8 0).cells (G - n) : Array Value).size = G := by
    simp [size_zeroCells, Value.cells]
    omega
  generalize (#[] ++ Builtin.zeroCells (Value.int .u8 0).cells n ++ Builtin.zeroCells (Value.int .u8 0).cells (G - n) : Array Value) = cs at *
  have HR := Lib.hid hrz
  have HC := Lib.hid hcs
  clear hrz hcs hz0 hz1 hz2 hi
  go_wp2_with (at_builtin; refine wpList_append_run rfl (.tmp 20) (.tmp 21) _ _ rfl _ _ _ rfl rfl (HR.out _) ?_)
  go_ret
  refine ⟨⟨_, rfl, ?_⟩, (Kp.refl w).drew.alloc _⟩
  refine ⟨rfl, .inr ⟨w.heap.size, G, cs, rfl, Nat.le_refl _, ?_, Nat.zero_le _, by unfold maxLen; exact hle, by rw [HC.out]; simp, by simp [Lib.byteCells]⟩⟩
  exact heap_alloc_new w.drew _
set_option maxHeartbeats 2000000 in
theorem concat_any (g c : Nat) (v1 v2 : Value) (l1 l2 : List UInt8) (w : World) (hc1 : w.cell? ⟨g, 0, none⟩ = some v1) (hc2 : w.cell? ⟨g, 1, none⟩ = some v2) (h1 : Rd w v1 l1) (h2 : Rd w v2 l2) (hp : 0 < l1.length + l2.length) (hb : l1.length + l2.length ≤ 1000000) :
    Calls Tryd.prog 77 #[.slice (some ⟨g, 0, none⟩) 2 c] w fun e w' => (∃ v, e = .returned v ∧ Ow 5 w' w.heap.size v (l1 ++ l2)) ∧ Kp w w' := by
  have U := u8
  obtain ⟨a1, e1, rfl, p1, q1⟩ := h1.shape
  obtain ⟨a2, e2, rfl, p2, q2⟩ := h2.shape
  unfold maxLen at q1 q2
  go_enter Tryd.func77, Tryd.ntmps77
  go_wp2_with fail
  go_loopw [3, 11] (fun s i wr => ((s = .int .i64 0 ∧ i = .int .i64 0) ∨ (s = .int .i64 (l1.length : Int) ∧ i = .int .i64 1) ∨ (s = .int .i64 ((l1.length : Int) + (l2.length : Int)) ∧ i = .int .i64 2)) ∧ wr = w) (fun _ i _ => 2 - (intOf i).toNat)
  case atStart => exact ⟨.inl ⟨rfl, rfl⟩, rfl⟩
  case round =>
    obtain ⟨hor, rfl⟩ := hrel
    rcases hor with ⟨rfl, rfl⟩ | ⟨rfl, rfl⟩ | ⟨rfl, rfl⟩
    · go_wp2_with fail
      go_roundw
      case rel => exact ⟨.inr (.inl ⟨by simp, rfl⟩), trivial⟩
      case measure => simp [intOf]
    · go_wp2_with fail
      go_roundw
      case rel => exact ⟨.inr (.inr ⟨by simp, rfl⟩), trivial⟩
      case measure => simp [intOf]
    · rename World => w0
      have hsum : ((l1.length + l2.length : Nat) : Int) = (l1.length : Int) + (l2.length : Int) := by simp
      have HG := Lib.hid (grow_any (l1.length + l2.length) w0 hp hb)
      rw [hsum] at HG
      clear hsum
      go_wp2_with fail
      refine HG.out.mono ?_
      rintro e w1 ⟨⟨v, rfl, ho⟩, hk1⟩
      go_wp2_with fail
      go_loopw [6, 27] (fun u i wq => ((Ow 5 wq w0.heap.size u [] ∧ i = .int .i64 0) ∨ (Ow 5 wq w0.heap.size u l1 ∧ i = .int .i64 1) ∨ (Ow 5 wq w0.heap.size u (l1 ++ l2) ∧ i = .int .i64 2)) ∧ Kp w0 wq) (fun _ i _ => 2 - (intOf i).toNat)
      case atStart => exact ⟨.inl ⟨ho, rfl⟩, hk1⟩
      case round =>
        clear ho hk1
        obtain ⟨hor, hk⟩ := hrel
        have hc1' := hk.cell hc1
        have hc2' := hk.cell hc2
        have hr1 := h1.kp hk
        have hr2 := h2.kp hk
        have hsz := hk.size
        rcases hor with ⟨ho, rfl⟩ | ⟨ho, rfl⟩ | ⟨ho, rfl⟩
        · go_wp2_with (at_builtin; refine wpList_append_ow U rfl _ _ rfl w0.heap.size _ _ rfl ho _ l1 rfl hr1 ?c1 hsz ?_; rotate_right; intro v' w2 ho2 hg2 _)
          case c1 => simp; omega
          rw [List.nil_append] at ho2
          go_roundw
          case rel => exact ⟨.inr (.inl ⟨ho2, rfl⟩), Kp.grown hk hg2 ho.own_ge⟩
          case measure => simp [intOf]
        · go_wp2_with (at_builtin; refine wpList_append_ow U rfl _ _ rfl w0.heap.size _ _ rfl ho _ l2 rfl hr2 ?c1 hsz ?_; rotate_right; intro v' w2 ho2 hg2 _)
          case c1 => omega
          go_roundw
          case rel => exact ⟨.inr (.inr ⟨ho2, rfl⟩), Kp.grown hk hg2 ho.own_ge⟩
          case measure => simp [intOf]
        · go_wp2_with fail
          go_ret
          exact ⟨⟨_, rfl, ho⟩, hk⟩
end Go.Proofs.YtigpgcjbpoaclaaDoor
