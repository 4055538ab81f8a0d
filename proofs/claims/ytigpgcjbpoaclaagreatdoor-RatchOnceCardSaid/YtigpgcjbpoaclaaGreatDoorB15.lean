import Derived.Test.YtigpgcjbpoaclaaGreatDoorB3
import Derived.Test.YtigpgcjbpoaclaaGreatDoorB13
import Derived.Lib.AppendZerosOnto
set_option linter.unusedVariables false
set_option linter.unusedSimpArgs false
namespace Go.Proofs.YtigpgcjbpoaclaaGreatDoor
open Go.RowKit
theorem wpList_append_run {P : Program} {ops : Array Oper} {rest : List Oper} {o : Oper} {a : Act} {w w' : World} {Q : Exit → Act → World → Prop} (hgd : o.guard = none) (s x : Operand) (t tn : TypeId)
    (ho : o.op = .call { callee := .builtin .append, args := #[s, x], argTypes := #[t, tn] }) (vs vx v : Value) (hs : a.eval s = vs) (hx : a.eval x = vx)
    (hrun : (Builtin.append_ #[t, tn] o.type #[vs, vx]).run P w = .ok v w') (h : wpList P ops Q rest (a.put o.dst v) w') : wpList P ops Q (o :: rest) a w := by
  refine wpList_plain hgd fun K hK => ?_
  unfold Oper.wp
  simp [execOp, ho, resolve, invoke, builtin, hs, hx, hrun, Result.andThen]
  exact hK _ _ h
set_option maxHeartbeats 1000000 in
theorem grow_any (n : Nat) (w : World) (h0 : 0 < n) (h1 : n ≤ 1000000) :
    Calls Tryz.prog 87 #[.slice none 0 0, .int .i64 n] w fun e w' => (∃ v, e = .returned v ∧ Ow 5 w' w.heap.size v []) ∧ Kp w w' := by
  obtain ⟨i0, hi, hz0, hz1, hz2⟩ := info_parts Tryz.info5
  have hold : (Builtin.firstCells i0.size 0 (.slice none 0 0)).run Tryz.prog w.drew = .ok ([] : List Value).toArray w.drew := rfl
  have hrz : ∀ ty, (Builtin.append_ #[22, 3] ty #[.slice none 0 0, .int .i64 (n : Int)]).run Tryz.prog w =
      .ok (.slice (some ⟨w.heap.size, 0, none⟩) n (grownCap w n 0 5)) (w.drew.alloc (.cells (#[] ++ Builtin.zeroCells (Value.int .u8 0).cells n ++ Builtin.zeroCells (Value.int .u8 0).cells (grownCap w n 0 5 - n)) 5)) := fun ty => by
    have h := Lib.run_append_grow_zeros w 22 3 ty 5 i0 (.int .u8 0) .i64 .i64 Tryz.underlying22 Tryz.underlying3 hi hz0 none 0 0 [] hold n h0 (by omega) (by omega) (by omega) (by rw [hz2]; omega)
      (by rw [hz2]; have := growslice_fits (need := 0 + n) (old := 0) (bytes := 1) (by omega) (by omega); exact this)
    simpa using h
  have hge : n ≤ grownCap w n 0 5 := grownCap_ge w _ _ _
  have hle := grownCap_le_maxLen w n 0 5 (by unfold maxLen; omega)
  generalize grownCap w n 0 5 = G at *
  unfold maxLen at hle
  have hn0 : ¬ (n : Int) < 0 := by omega
  have hn1 : 0 < (n : Int) := by omega
  clear hold
  go_enter Tryz.func87, Tryz.ntmps87
  have hcs : (#[] ++ Builtin.zeroCells (Value.int .u8 0).cells n ++ Builtin.zeroCells (Value.int .u8 0).cells (G - n) : Array Value).size = G := by
    simp [size_zeroCells, Value.cells]
    omega
  generalize (#[] ++ Builtin.zeroCells (Value.int .u8 0).cells n ++ Builtin.zeroCells (Value.int .u8 0).cells (G - n) : Array Value) = cs at *
  have HR := Lib.hid hrz
  have HC := Lib.hid hcs
  clear hrz hcs hz0 hz1 hz2 hi
  go_wp2_with (at_builtin; refine wpList_append_run rfl (.tmp 20) (.tmp 21) _ _ rfl _ _ _ rfl rfl (HR.out _) ?_)
  go_ret
  refine ⟨⟨_, rfl, ?_⟩, (Kp.refl w).drew.alloc _⟩
  refine ⟨rfl, .inr ⟨w.heap.size, G, cs, rfl, Nat.le_refl _, ?_, Nat.zero_le _, by unfold maxLen; exact hle, by rw [HC.out]; simp, by simp [Lib.byteCells]⟩⟩
  exact heap_alloc_new w.drew _
set_option maxHeartbeats 2000000 in
theorem concat_any (g c : Nat) (v1 v2 : Value) (l1 l2 : List UInt8) (w : World) (hc1 : w.cell? ⟨g, 0, none⟩ = some v1) (hc2 : w.cell? ⟨g, 1, none⟩ = some v2) (h1 : Rd w v1 l1) (h2 : Rd w v2 l2) (hp : 0 < l1.length + l2.length) (hb : l1.length + l2.length ≤ 1000000) :
    Calls Tryz.prog 80 #[.slice (some ⟨g, 0, none⟩) 2 c] w fun e w' => (∃ v, e = .returned v ∧ Ow 5 w' w.heap.size v (l1 ++ l2)) ∧ Kp w w' := by
  have U := u8
  obtain ⟨a1, e1, rfl, p1, q1⟩ := h1.shape
  obtain ⟨a2, e2, rfl, p2, q2⟩ := h2.shape
  unfold maxLen at q1 q2
  go_enter Tryz.func80, Tryz.ntmps80
  go_wp2_with fail
  go_loopw [3, 11] (fun s i wr => ((s = .int .i64 0 ∧ i = .int .i64 0) ∨ (s = .int .i64 (l1.length : Int) ∧ i = .int .i64 1) ∨ (s = .int .i64 ((l1.length : Int) + (l2.length : Int)) ∧ i = .int .i64 2)) ∧ wr = w) (fun _ i _ => 2 - (intOf i).toNat)
  case atStart => exact ⟨.inl ⟨rfl, rfl⟩, rfl⟩
  case round =>
    obtain ⟨hor, rfl⟩ := hrel
    rcases hor with ⟨rfl, rfl⟩ | ⟨rfl, rfl⟩ | ⟨rfl, rfl⟩
    · go_wp2_with fail
      go_roundw
      case rel => exact ⟨.inr (.inl ⟨by simp, rfl⟩), trivial⟩
      case measure => simp [intOf]
    · go_wp2_with fail
      go_roundw
      case rel => exact ⟨.inr (.inr ⟨by simp, rfl⟩), trivial⟩
      case measure => simp [intOf]
    · rename World => w0
      have hsum : ((l1.length + l2.length : Nat) : Int) = (l1.length : Int) + (l2.length : Int) := by simp
      have HG := Lib.hid (grow_any (l1.length + l2.length) w0 hp hb)
      rw [hsum] at HG
      clear hsum
      go_wp2_with fail
      refine HG.out.mono ?_
      rintro e w1 ⟨⟨v, rfl, ho⟩, hk1⟩
      go_wp2_with fail
      go_loopw [6, 27] (fun u i wq => ((Ow 5 wq w0.heap.size u [] ∧ i = .int .i64 0) ∨ (Ow 5 wq w0.heap.size u l1 ∧ i = .int .i64 1) ∨ (Ow 5 wq w0.heap.size u (l1 ++ l2) ∧ i = .int .i64 2)) ∧ Kp w0 wq) (fun _ i _ => 2 - (intOf i).toNat)
      case atStart => exact ⟨.inl ⟨ho, rfl⟩, hk1⟩
      case round =>
        clear ho hk1
        obtain ⟨hor, hk⟩ := hrel
        have hc1' := hk.cell hc1
        have hc2' := hk.cell hc2
        have hr1 := h1.kp hk
        have hr2 := h2.kp hk
        have hsz := hk.size
        rcases hor with ⟨ho, rfl⟩ | ⟨ho, rfl⟩ | ⟨ho, rfl⟩
        · go_wp2_with (at_builtin; refine wpList_append_ow U rfl _ _ rfl w0.heap.size _ _ rfl ho _ l1 rfl hr1 ?c1 hsz ?_; rotate_right; intro v' w2 ho2 hg2 _)
          case c1 => simp; omega
          rw [List.nil_append] at ho2
          go_roundw
          case rel => exact ⟨.inr (.inl ⟨ho2, rfl⟩), Kp.grown hk hg2 ho.own_ge⟩
          case measure => simp [intOf]
        · go_wp2_with (at_builtin; refine wpList_append_ow U rfl _ _ rfl w0.heap.size _ _ rfl ho _ l2 rfl hr2 ?c1 hsz ?_; rotate_right; intro v' w2 ho2 hg2 _)
          case c1 => omega
          go_roundw
          case rel => exact ⟨.inr (.inr ⟨ho2, rfl⟩), Kp.grown hk hg2 ho.own_ge⟩
          case measure => simp [intOf]
        · go_wp2_with fail
          go_ret
          exact ⟨⟨_, rfl, ho⟩, hk⟩
theorem flat_succ (ls : List (List UInt8)) (k : Nat) (h : k < ls.length) : (ls.take (k + 1)).flatten = (ls.take k).flatten ++ ls.getD k [] := by
  rw [List.take_succ_eq_append_getElem h, List.flatten_append, List.getD_eq_getElem?_getD, List.getElem?_eq_getElem h]
  simp
theorem flat_le (ls : List (List UInt8)) (k : Nat) : (ls.take k).flatten.length ≤ ls.flatten.length := by
  have e : ls.flatten = (ls.take k).flatten ++ (ls.drop k).flatten := by rw [← List.flatten_append, List.take_append_drop]
  rw [e, List.length_append]
  omega
set_option maxHeartbeats 2000000 in
theorem concat_rows (v : Value) (ls : List (List UInt8)) (w : World) (h : RL w v ls) (hp : 0 < ls.flatten.length) (hb : ls.flatten.length ≤ 1000000) (hn : ls.length ≤ 1000000) :
    Calls Tryz.prog 80 #[v] w fun e w' => (∃ v, e = .returned v ∧ Ow 5 w' w.heap.size v ls.flatten) ∧ Kp w w' := by
  have U := u8
  obtain ⟨a, c, rfl, h1, h2⟩ := h.shape
  unfold maxLen at h2
  have HG := Lib.hid (grow_any ls.flatten.length w hp hb)
  have HF := Lib.hid (flat_succ ls)
  have HL := Lib.hid (flat_le ls)
  have hall : (ls.take ls.length).flatten = ls.flatten := by rw [List.take_length]
  have HA := Lib.hid hall
  clear hall
  go_enter Tryz.func80, Tryz.ntmps80
  go_wp2_with fail
  go_loopw [3, 11] (fun s i wr => (∃ k : Nat, k ≤ ls.length ∧ i = .int .i64 k ∧ s = .int .i64 ((ls.take k).flatten.length : Int)) ∧ wr = w) (fun _ i _ => ls.length - (intOf i).toNat)
  case atStart => exact ⟨⟨0, by omega, rfl, rfl⟩, rfl⟩
  case round =>
    obtain ⟨⟨k, hk, rfl, rfl⟩, rfl⟩ := hrel
    rename World => w
    by_cases hlt : k < ls.length
    · obtain ⟨b, off, rfl, _, hcell⟩ := h.at k hlt
      obtain ⟨u, hcu, hru⟩ := hcell k hlt
      obtain ⟨au, cu, rfl, p1, p2⟩ := hru.shape
      have hs := congrArg List.length (HF.out k hlt)
      rw [List.length_append] at hs
      have hle := HL.out (k + 1)
      obtain ⟨N, hN⟩ : ∃ N, (ls.take k).flatten.length = N := ⟨_, rfl⟩
      obtain ⟨M, hM⟩ : ∃ M, (ls.getD k []).length = M := ⟨_, rfl⟩
      obtain ⟨T, hT⟩ : ∃ T, (ls.take (k + 1)).flatten.length = T := ⟨_, rfl⟩
      rw [hN, hM, hT] at hs
      rw [hT] at hle
      rw [hM] at hcu p1
      rw [hN]
      have b1 : (N : Int) + (M : Int) ≤ 1000000 := by omega
      have HT := Lib.hid (show (T : Int) = (N : Int) + (M : Int) by omega)
      have HT2 := Lib.hid hT
      unfold maxLen at p2
      clear hcell hru hs hN hM hT HG
      go_wp2_with fail
      go_roundw
      case rel => exact ⟨⟨k + 1, by omega, by go_num, by rw [HT2.out, HT.out]⟩, trivial⟩
      case measure => simp [intOf]; omega
    · obtain rfl : k = ls.length := by omega
      rw [HA.out]
      obtain ⟨F, hF⟩ : ∃ F, ls.flatten.length = F := ⟨_, rfl⟩
      rw [hF] at HG hp hb
      rw [hF]
      have HFL := Lib.hid hF
      clear hF
      go_wp2_with fail
      refine HG.out.mono ?_
      rintro e w1 ⟨⟨v, rfl, ho⟩, hk1⟩
      go_wp2_with fail
      go_loopw [6, 27] (fun u i wq => (∃ k : Nat, k ≤ ls.length ∧ i = .int .i64 k ∧ Ow 5 wq w.heap.size u (ls.take k).flatten) ∧ Kp w wq) (fun _ i _ => ls.length - (intOf i).toNat)
      case atStart => exact ⟨⟨0, by omega, rfl, ho⟩, hk1⟩
      case round =>
        clear ho hk1
        obtain ⟨⟨k, hk, rfl, ho⟩, hkp⟩ := hrel
        by_cases hlt : k < ls.length
        · obtain ⟨b, off, rfl, _, hcell⟩ := h.at k hlt
          obtain ⟨u, hcu, hru⟩ := hcell k hlt
          have hcu' := hkp.cell hcu
          have hru' := hru.kp hkp
          obtain ⟨au, cu, rfl, p1, p2⟩ := hru.shape
          have hs := congrArg List.length (HF.out k hlt)
          rw [List.length_append] at hs
          have hle := HL.out (k + 1)
          rw [HFL.out] at hle
          have hle2 : (List.take k ls).flatten.length + (ls.getD k []).length ≤ 1000000 := by omega
          have hsz := hkp.size
          have HFK := Lib.hid (HF.out k hlt)
          obtain ⟨X, hX⟩ : ∃ X, ls.getD k [] = X := ⟨_, rfl⟩
          obtain ⟨Y, hY⟩ : ∃ Y, (ls.take k).flatten = Y := ⟨_, rfl⟩
          rw [hX] at hcu' hru' p1 hle2 HFK
          rw [hY] at ho hle2 HFK
          unfold maxLen at p2
          clear hcell hru hs hcu hle HG hX hY
          go_wp2_with (at_builtin; refine wpList_append_ow U rfl _ _ rfl w.heap.size _ _ rfl ho _ X rfl hru' ?c1 hsz ?_; rotate_right; intro v' w2 ho2 hg2 _)
          case c1 => omega
          go_roundw
          case rel => exact ⟨⟨k + 1, by omega, by go_num, by rw [HFK.out]; exact ho2⟩, Kp.grown hkp hg2 ho.own_ge⟩
          case measure => simp [intOf]; omega
        · obtain rfl : k = ls.length := by omega
          rw [HA.out] at ho
          go_wp2_with fail
          go_ret
          exact ⟨⟨_, rfl, ho⟩, hkp⟩
end Go.Proofs.YtigpgcjbpoaclaaGreatDoor
