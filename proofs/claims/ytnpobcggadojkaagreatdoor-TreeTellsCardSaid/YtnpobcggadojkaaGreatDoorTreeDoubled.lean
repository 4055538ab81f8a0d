/- tree.doubled: append of zeros onto a row of nodes of the call's own. -/
import Derived.Test.YtnpobcggadojkaaGreatDoorTreeUpd
import Derived.Lib.AppendZerosOnto
set_option linter.unusedVariables false
set_option linter.unusedSimpArgs false
namespace Go.Proofs.YtnpobcggadojkaaGreatDoor
open Go.RowKit

theorem wpList_append_run9 {P : Program} {ops : Array Oper} {rest : List Oper} {o : Oper} {a : Act} {w w' : World} {Q : Exit → Act → World → Prop} (hgd : o.guard = none) (s x : Operand) (t tn : TypeId)
    (ho : o.op = .call { callee := .builtin .append, args := #[s, x], argTypes := #[t, tn] }) (vs vx v : Value) (hs : a.eval s = vs) (hx : a.eval x = vx)
    (hrun : (Builtin.append_ #[t, tn] o.type #[vs, vx]).run P w = .ok v w') (h : wpList P ops Q rest (a.put o.dst v) w') : wpList P ops Q (o :: rest) a w := by
  refine wpList_plain hgd fun K hK => ?_
  unfold Oper.wp
  simp [execOp, ho, resolve, invoke, builtin, hs, hx, hrun, Result.andThen]
  exact hK _ _ h
/-- append of zeros where there is room. -/
theorem run_append_room_zeros {P : Program} (w : World) (t tn ty e : TypeId) (i : TypeInfo) (z : Value) (kq kn : IntKind) (ht : P.underlying t = some (.slice e)) (htn : P.underlying tn = some (.int kn)) (hi : P.info? e = some i) (hz : i.zero = some z)
    (g sLen sCap : Nat) (k : Nat) (h0 : 0 < k) (hs : 0 < i.size) (hg : sLen + k ≤ sCap) (h63 : (k : Int) ≤ 9223372036854775807) (h48 : k * i.bytes ≤ 281474976710656)
    (hc : ∀ j, j < (Builtin.zeroCells z.cells k).toList.length → (w.cell? ⟨g, sLen * i.size + j, none⟩).isSome = true) (hf : ∀ j, j < (Builtin.zeroCells z.cells k).toList.length → w.frozen? ⟨g, sLen * i.size + j, none⟩ = false)
    (h1 : ∀ v ∈ (Builtin.zeroCells z.cells k).toList, v.oneCell' = true) :
    (Builtin.append_ #[t, tn] ty #[.slice (some ⟨g, 0, none⟩) sLen sCap, .int kq k]).run P w = .ok (.slice (some ⟨g, 0, none⟩) (sLen + k) sCap) (w.setCells g (sLen * i.size) (Builtin.zeroCells z.cells k).toList) := by
  have hk : k ≠ 0 := by omega
  have hw : IntKind.i64.wrap (k : Int) = k := by rw [IntKind.wrap_i64]; omega
  have h48i : ¬ (281474976710656 < (k : Int) * (i.bytes : Int)) := by
    rw [← Int.natCast_mul]
    omega
  have hneg : ¬ ((k : Int) < 0) := by omega
  have hns : ¬ (k * i.size = 0) := Nat.mul_ne_zero hk (by omega)
  have hst := run_storeCells_cells (P := P) g (sLen * i.size) (Builtin.zeroCells z.cells k).toList 0 w (fun j hj => by rw [Nat.add_zero]; exact hc j hj) (fun j hj => by rw [Nat.add_zero]; exact hf j hj) h1
  have hadd : (⟨g, 0, none⟩ : Addr).add (sLen * i.size) = ⟨g, sLen * i.size, none⟩ := by unfold Addr.add; split <;> simp_all
  simp only [Nat.add_zero] at hst
  simp [Builtin.append_, run_underlying ht, run_underlying htn, sizeOf, typeInfo, zeroValue, hi, hz, asInt, asIntOf, hw, hg, hneg, hns, h48i, hadd, hst]
theorem growBy_le (n : Nat) : ∀ (r c : Nat), Builtin.growBy n r c ≤ 2 ^ r * (c + 768)
  | 0, c => by unfold Builtin.growBy; omega
  | r + 1, c => by
    unfold Builtin.growBy
    have := Nat.one_le_two_pow (n := r)
    have h2 := p2_succ r
    split
    · have : 1 * (c + 768) ≤ 2 ^ (r + 1) * (c + 768) := Nat.mul_le_mul_right _ (by omega)
      omega
    · refine Nat.le_trans (growBy_le n r _) ?_
      rw [h2, Nat.mul_comm 2, Nat.mul_assoc]
      exact Nat.mul_le_mul_left _ (by omega)
set_option maxRecDepth 100000 in
theorem nextcap_le (n c : Nat) (hc : c < n) : Builtin.nextslicecap n c ≤ 16 * (n + 768) := by
  have h4 := growBy_le n 4 c
  rw [show (2 : Nat) ^ 4 = 16 from rfl] at h4
  unfold Builtin.nextslicecap
  generalize Builtin.growBy n 4 c = G at *
  by_cases h1 : n > 2 * c
  · rw [if_pos h1]; omega
  · rw [if_neg h1]
    by_cases h2 : c < 256
    · rw [if_pos h2]; omega
    · rw [if_neg h2]; omega
theorem own5_of_bx {e : TypeId} {w : World} {B g cap n : Nat} {cells : Array Value} {xs : List Value} (h : Bx w g e cells) (hB : B ≤ g) (hs : cells.size = cap * 5) (hl : xs.length = n * 5) (hn : n ≤ cap) (hm : cap ≤ maxLen) (hk : ∀ k, k < n * 5 → cells[k]? = xs[k]?) :
    w.ownsRow B e 5 (.slice (some ⟨g, 0, none⟩) n cap) n xs := by
  refine ⟨hl, .inr ⟨g, cap, cells, rfl, hB, h, hn, hm, hs, ?_⟩⟩
  refine List.ext_getElem? fun k => ?_
  by_cases h1 : k < n * 5
  · rw [List.getElem?_take_of_lt h1, Array.getElem?_toList, hk k h1]
  · rw [List.getElem?_take_eq_none (by omega), List.getElem?_eq_none (by omega)]
def zNode : Value := .agg #[.int .i64 0, .int .i64 0, .slice none 0 0, .slice none 0 0, .slice none 0 0]
theorem zeros5 (k : Nat) : (Builtin.zeroCells zNode.cells k).toList.length = k * 5 ∧ (∀ i f, i < k → f < 5 → (Builtin.zeroCells zNode.cells k).toList[i * 5 + f]? = (nodC blankN (.slice none 0 0) (.slice none 0 0) (.slice none 0 0))[f]?) ∧ ∀ v ∈ (Builtin.zeroCells zNode.cells k).toList, v.oneCell' = true := by
  have hs : zNode.cells.size = 5 := rfl
  have hget : ∀ i f, i < k → f < 5 → (Builtin.zeroCells zNode.cells k).toList[i * 5 + f]? = (nodC blankN (.slice none 0 0) (.slice none 0 0) (.slice none 0 0))[f]? := fun i f hi hf => by
    unfold Builtin.zeroCells
    rw [hs, Array.getElem?_toList, Array.getElem?_map, Array.getElem?_range, if_pos (by omega)]
    simp only [Option.map_some]
    rw [show (i * 5 + f) % 5 = f by omega]
    match f, hf with
    | 0, _ => rfl
    | 1, _ => rfl
    | 2, _ => rfl
    | 3, _ => rfl
    | 4, _ => rfl
  have hlen : (Builtin.zeroCells zNode.cells k).toList.length = k * 5 := by
    unfold Builtin.zeroCells
    rw [Array.length_toList, Array.size_map, Array.size_range, hs]
  refine ⟨hlen, hget, fun v hv => ?_⟩
  obtain ⟨j, hj⟩ := List.getElem?_of_mem hv
  have hjl := (List.getElem?_eq_some_iff.1 hj).1
  rw [hlen] at hjl
  have := hget (j / 5) (j % 5) (by omega) (by omega)
  rw [show j / 5 * 5 + j % 5 = j by omega, hj] at this
  have hm : v ∈ nodC blankN (.slice none 0 0) (.slice none 0 0) (.slice none 0 0) := List.mem_of_getElem? this.symm
  unfold nodC at hm
  simp only [List.mem_cons, List.not_mem_nil, or_false] at hm
  rcases hm with rfl | rfl | rfl | rfl | rfl <;> rfl
def pad9 (f : Nat → Value) (N : Nat) : Nat → Value := fun j => if j < N then f j else .slice none 0 0
/-- Blank nodes behind. -/
theorem NX.longer {e ei : TypeId} {w w' : World} {B g N c : Nat} {t : List Nod} {P U H : Nat → Value} (h : NX e ei w B (.slice (some ⟨g, 0, none⟩) N c) t P U H (fun _ => True)) (hg : w.grownBy w' (some g)) (v' : Value) (k : Nat)
    (hv' : v'.ownBlock = some g ∨ v'.ownBlock = some w.heap.size)
    (hrow : ∀ us, w.ownsRow B e 5 (.slice (some ⟨g, 0, none⟩) N c) t.length us → w'.ownsRow B e 5 v' (t.length + k) (us ++ (Builtin.zeroCells zNode.cells k).toList)) :
    NX e ei w' B v' (t ++ List.replicate k blankN) (pad9 P t.length) (pad9 U t.length) (pad9 H t.length) (fun _ => True) := by
  obtain ⟨us, k1, k2, k3⟩ := h.row
  obtain ⟨z1, z2, z3⟩ := zeros5 k
  have hul := k1.1
  have hlen : (t ++ List.replicate k blankN).length = t.length + k := by rw [List.length_append, List.length_replicate]
  have hat : ∀ j, ats (t ++ List.replicate k blankN) j = ats t j := fun j => ats_rep t k j
  have hblk : ∀ j, ¬ j < t.length → ats t j = blankN := fun j hj => ats_over (by omega)
  have hnilA : ∀ u : Value, Apart u (.slice none 0 0) := fun u => Apart.nil u none 0
  refine ⟨⟨us ++ (Builtin.zeroCells zNode.cells k).toList, by rw [hlen]; exact hrow us k1, fun z hz => ?_, fun j hj f hf => ?_⟩, fun j hj => ?_, fun j hj => ?_, fun j hj _ => ?_, fun j hj _ gj hgj => ?_, fun j i hj hi _ _ gj h1 h2 => ?_⟩
  · rcases List.mem_append.1 hz with hz | hz
    · exact k2 z hz
    · exact z3 z hz
  · rw [hlen] at hj
    rw [hat]
    unfold pad9
    by_cases e1 : j < t.length
    · rw [if_pos e1, if_pos e1, if_pos e1, List.getElem?_append_left (by rw [hul]; omega)]
      exact k3 j e1 f hf
    · rw [if_neg e1, if_neg e1, if_neg e1, hblk j e1, List.getElem?_append_right (by rw [hul]; omega), hul, show j * 5 + f - t.length * 5 = (j - t.length) * 5 + f by omega]
      exact z2 (j - t.length) f (by omega) hf
  · rw [hat]
    unfold pad9
    by_cases e1 : j < t.length
    · rw [if_pos e1, if_pos e1, if_pos e1]
      obtain ⟨a1, a2, a3⟩ := h.apv j e1
      exact (h.ins j e1).grown (v := .slice (some ⟨g, 0, none⟩) N c) hg a1 a2 a3
    · rw [if_neg e1, if_neg e1, if_neg e1, hblk j e1]
      exact ⟨rd_nil9 _, RI.nil _, rd_nil9 _⟩
  · unfold pad9
    by_cases e1 : j < t.length
    · rw [if_pos e1, if_pos e1, if_pos e1]
      obtain ⟨a1, a2, a3⟩ := h.apv j e1
      have hi := h.ins j e1
      exact ⟨a1.moved hi.pub hv', a2.movedI hi.un hv', a3.moved hi.hash hv'⟩
    · rw [if_neg e1, if_neg e1, if_neg e1]
      exact ⟨hnilA _, hnilA _, hnilA _⟩
  · rw [hat]
    unfold pad9
    by_cases e1 : j < t.length
    · rw [if_pos e1]
      exact (h.own j e1 trivial).grown9 hg (fun g' hg' e2 => (h.sep j e1 trivial g' hg').1 (by simpa [Value.ownBlock] using e2))
    · rw [if_neg e1, hblk j e1]
      exact OI.nil _ _ _
  · unfold pad9 at hgj ⊢
    by_cases e1 : j < t.length
    · rw [if_pos e1] at hgj ⊢
      obtain ⟨s1, s2⟩ := h.sep j e1 trivial gj hgj
      have hlt := ((h.own j e1 trivial).lt gj hgj).2
      refine ⟨fun e2 => ?_, fun i hi => ?_⟩
      · rcases hv' with hv' | hv'
        · exact s1 (by rw [← e2, hv']; rfl)
        · rw [hv'] at e2
          simp only [Option.some.injEq] at e2
          omega
      · by_cases e3 : i < t.length
        · rw [if_pos e3, if_pos e3, if_pos e3]
          exact s2 i e3
        · rw [if_neg e3, if_neg e3, if_neg e3]
          exact ⟨hnilA _, hnilA _, fun _ => hnilA _⟩
    · rw [if_neg e1] at hgj
      cases hgj
  · unfold pad9 at h1 h2
    by_cases e1 : j < t.length
    · by_cases e2 : i < t.length
      · rw [if_pos e1] at h1
        rw [if_pos e2] at h2
        exact h.inj j i e1 e2 trivial trivial gj h1 h2
      · rw [if_neg e2] at h2
        cases h2
    · rw [if_neg e1] at h1
      cases h1

set_option maxRecDepth 100000 in
set_option maxHeartbeats 1000000 in
theorem treeDoubled_any (g N c B : Nat) (t : List Nod) (P U H : Nat → Value) (w : World) (h : NX 57 3 w B (.slice (some ⟨g, 0, none⟩) N c) t P U H (fun _ => True)) (hB : B ≤ w.heap.size) (hl : N ≤ 3000) :
    Calls Tryz.prog 55 #[.slice (some ⟨g, 0, none⟩) N c] w fun e w' => (∃ v' P' U' H', e = .returned v' ∧ NX 57 3 w' B v' (t ++ List.replicate (N + 1) blankN) P' U' H' (fun _ => True) ∧ (v'.ownBlock = some g ∨ v'.ownBlock = some w.heap.size)) ∧ w.grownBy w' (some g) := by
  obtain ⟨i0, hi0, hz0, hz1, hz2⟩ := info_parts Tryz.infoNode
  have hN := h.len
  subst hN
  have hU3 : Tryz.prog.underlying 3 = some (.int .i64) := Tryz.underlying3
  obtain ⟨us0, k1, _⟩ := h.row
  obtain ⟨g', cap, cur, e0, hb, hg, hn, hm, hs, ht⟩ : ∃ g' cap cur, Value.slice (some ⟨g, 0, none⟩) t.length c = .slice (some ⟨g', 0, none⟩) t.length cap ∧ B ≤ g' ∧ w.heap[g']? = some (.cells cur 57 (0, 0)) ∧ t.length ≤ cap ∧ cap ≤ maxLen ∧ cur.size = cap * 5 ∧ cur.toList.take (t.length * 5) = us0 := by
    rcases k1.2 with ⟨e, _⟩ | hh
    · simp at e
    · exact hh
  simp only [Value.slice.injEq, Option.some.injEq, Addr.mk.injEq, and_true] at e0
  obtain ⟨rfl, _, rfl⟩ := e0
  obtain ⟨zl, _, zo⟩ := zeros5 (t.length + 1)
  have hbx : Bx w g 57 cur := hg
  have hcur : ∀ us, w.ownsRow B 57 5 (.slice (some ⟨g, 0, none⟩) t.length c) t.length us → us.length = t.length * 5 ∧ ∀ j, j < t.length * 5 → cur[j]? = us[j]? := fun us hus => by
    refine ⟨by rw [hus.1], fun j hj => ?_⟩
    have := hus.cellAt j hj
    rw [hbx.cell] at this
    exact this
  have key : ∃ v' w', (Builtin.append_ #[22, 3] 22 #[.slice (some ⟨g, 0, none⟩) t.length c, .int .i64 ((t.length + 1 : Nat) : Int)]).run Tryz.prog w = .ok v' w' ∧ w.grownBy w' (some g) ∧ (v'.ownBlock = some g ∨ v'.ownBlock = some w.heap.size) ∧
      ∀ us, w.ownsRow B 57 5 (.slice (some ⟨g, 0, none⟩) t.length c) t.length us → w'.ownsRow B 57 5 v' (t.length + (t.length + 1)) (us ++ (Builtin.zeroCells zNode.cells (t.length + 1)).toList) := by
    by_cases hroom : t.length + (t.length + 1) ≤ c
    · refine ⟨_, _, run_append_room_zeros w _ _ _ _ i0 zNode .i64 .i64 Tryz.underlying22 hU3 hi0 hz0 g t.length c (t.length + 1) (by omega) (by omega) hroom (by omega) (by rw [hz2]; omega) (fun j hj => ?_) (fun j hj => hbx.frozen _) zo, ?_, .inl rfl, fun us hus => ?_⟩
      · rw [zl] at hj
        rw [hbx.cell, Array.getElem?_eq_getElem (by rw [hz1]; omega)]; rfl
      · exact grown_set9 w g 0 _ _
      · obtain ⟨u1, u2⟩ := hcur us hus
        obtain ⟨cs', q1, q2, q3⟩ := Bx.setCells (Builtin.zeroCells zNode.cells (t.length + 1)).toList (t.length * i0.size) w cur hbx (by rw [zl, hz1]; omega)
        refine own5_of_bx q1 hb (q2.trans hs) (by rw [List.length_append, u1, zl]; omega) hroom hm fun j hj => ?_
        rw [q3 j, zl, hz1]
        by_cases h1 : j < t.length * 5
        · rw [if_neg (by omega), u2 j h1, List.getElem?_append_left (by omega)]
        · rw [if_pos ⟨by omega, by omega⟩, List.getElem?_append_right (by omega), u1]
    · have hold : ∀ us, w.ownsRow B 57 5 (.slice (some ⟨g, 0, none⟩) t.length c) t.length us → (Builtin.firstCells i0.size t.length (.slice (some ⟨g, 0, none⟩) t.length c)).run Tryz.prog w.drew = .ok us.toArray w.drew := fun us hus => by
        obtain ⟨u1, u2⟩ := hcur us hus
        refine run_firstCells_some w.drew i0.size t.length ⟨g, 0, none⟩ t.length c us (by rw [u1, hz1]) fun j v hj => ?_
        have hjl : j < t.length * 5 := by
          have := (List.getElem?_eq_some_iff.1 hj).1
          omega
        rw [Addr.add_mid, Nat.zero_add]
        show w.cell? ⟨g, j, none⟩ = some v
        rw [hbx.cell, u2 j hjl, hj]
      have hcap := nextcap_le (t.length + (t.length + 1)) c (by omega)
      have hus0 := k1
      obtain ⟨u1, u2⟩ := hcur us0 hus0
      have c1 := grownCap_ge w (t.length + (t.length + 1)) c 57
      have c2 := grownCap_le_maxLen w (t.length + (t.length + 1)) c 57 (by unfold maxLen; omega)
      refine ⟨_, _, Lib.run_append_grow_zeros w _ _ _ _ i0 zNode .i64 .i64 Tryz.underlying22 hU3 hi0 hz0 (some ⟨g, 0, none⟩) t.length c us0 (hold us0 hus0) (t.length + 1) (by omega) (by omega) (by omega) (by omega) (by rw [hz2]; omega) (by rw [hz2]; have := Nat.mul_le_mul_right 88 hcap; omega), ?_, .inr rfl, fun us hus => ?_⟩
      · exact kp_grown9 (((Kp.refl w).drew).alloc _) _
      · obtain ⟨v1, v2⟩ := hcur us hus
        have hue : us = us0 := List.ext_getElem? fun j => by
          by_cases hj : j < t.length * 5
          · rw [← v2 j hj, u2 j hj]
          · rw [List.getElem?_eq_none (by omega), List.getElem?_eq_none (by omega)]
        subst hue
        refine own5_of_bx (Bx.new w.drew 57 _) (Nat.le_trans hB (by show w.heap.size ≤ w.heap.size; omega)) ?_ (by rw [List.length_append, u1, zl]; omega) c1 c2 fun j hj => ?_
        · have z9 := (zeros5 (grownCap w (t.length + (t.length + 1)) c 57 - (t.length + (t.length + 1)))).1
          rw [Array.length_toList] at z9 zl
          simp only [Array.size_append, List.size_toArray, z9, zl, u1]
          omega
        · rw [Array.getElem?_append_left (by simp only [Array.size_append, List.size_toArray]; rw [Array.length_toList] at zl; omega), ← Array.getElem?_toList, Array.toList_append]
  obtain ⟨v', w9, hrun, hgr, hv', hrow⟩ := key
  have hnx := h.longer hgr v' (t.length + 1) hv' hrow
  obtain ⟨N, hN⟩ : ∃ N, t.length = N := ⟨_, rfl⟩
  rw [hN] at hnx hrun hl ⊢
  have hnI : IntKind.i64.wrap ((N : Int) + 1) = ((N + 1 : Nat) : Int) := by rw [IntWalk.i64_in _ (by omega)]; omega
  have HF := Lib.hid (And.intro hnx hv')
  have HGR := Lib.hid hgr
  obtain ⟨av, nv, cv, rfl⟩ := hnx.no.nl.sl
  generalize ((N + 1 : Nat) : Int) = M at *
  have HRUN := Lib.hid hrun
  clear hnx hv' hgr hrow hrun hcur hbx zo zl k1 ht hg hs hm hn hb h hl hB hN
  go_enter Tryz.func55, Tryz.ntmps55
  go_wp2_with (at_builtin; refine wpList_append_run9 rfl _ _ 22 3 rfl (.slice (some ⟨g, 0, none⟩) N c) (.int .i64 M) _ rfl rfl HRUN.out ?_)
  go_ret
  exact ⟨⟨_, _, _, _, rfl, HF.out.1, HF.out.2⟩, HGR.out⟩
end Go.Proofs.YtnpobcggadojkaaGreatDoor
