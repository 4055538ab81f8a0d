/- aes.newCipher: a key's cipher. -/
import Derived.Test.YtfnkcdcbjcoefaaAesNext
import Derived.Deep.MidRow
import Derived.Deep.RegionHeld3
import Derived.Laws.CopyOwn
set_option linter.unusedVariables false
set_option linter.unusedSimpArgs false
namespace Go.Proofs.Ytfnkcdcbjcoefaa
open Go.RowKit

theorem rangeAt_kp {w w' : World} {b o : Nat} {cs : List Value} (k : Kp w w') (h : w.rangeAt b o cs) : w'.rangeAt b o cs := fun j v hv => k.cell (h j v hv)
theorem there_kp {w w' : World} {b o n : Nat} (k : Kp w w') (h : w.there b o n) : w'.there b o n := fun j hj => by
  obtain ⟨h1, h2⟩ := h j hj
  obtain ⟨v, hv⟩ := Option.isSome_iff_exists.1 h1
  have hb := World.block_lt_of_cell? w _ hv
  refine ⟨by rw [k.cell hv]; rfl, ?_⟩
  rw [← h2]
  have := k.block b hb
  simp only [World.frozen?, this]
theorem there_part {w : World} {b o n o' n' : Nat} (h : w.there b o n) (h1 : o ≤ o') (h2 : o' + n' ≤ o + n) : w.there b o' n' := fun j hj => by
  have := h (o' - o + j) (by omega)
  rwa [show o + (o' - o + j) = o' + j by omega] at this
/-- Row n of what lies there. -/
theorem Lies.range {w : World} {b o n : Nat} {K : List UInt8} (h : Lies w b o K) (hn : 16 * n + 16 ≤ K.length) : w.rangeAt b (o + 16 * n) (Lib.byteCells (rowK K n)) := fun j v hv => by
  have hl := rowK_length hn
  have hj : j < (rowK K n).length := by
    have := (List.getElem?_eq_some_iff.1 hv).1
    rwa [byteCells_length] at this
  rw [byteCells_get _ j hj] at hv
  cases hv
  have hc := h (16 * n + j) (by omega)
  rw [← rowK_get (by omega), List.getD_eq_getElem?_getD, List.getElem?_eq_getElem hj] at hc
  rw [Nat.add_assoc, hc]
  rfl
theorem Lies.row {w : World} {b o n : Nat} {K : List UInt8} (h : Lies w b o K) (hn : 16 * n + 16 ≤ K.length) : Lies w b (o + 16 * n) (rowK K n) := fun i hi => by
  rw [rowK_length hn] at hi
  rw [rowK_get hi, Nat.add_assoc]
  exact h (16 * n + i) (by omega)
theorem take_getD (K : List UInt8) (m i : Nat) (h : i < m) : (K.take m).getD i 0 = K.getD i 0 := by
  rw [List.getD_eq_getElem?_getD, List.getElem?_take_of_lt h, List.getD_eq_getElem?_getD]
/-- The next row is stored. -/
theorem Lies.store {w : World} {b o n : Nat} {K : List UInt8} (h : Lies w b o (K.take (16 * (n + 1)))) (ht : w.there b o K.length) (hn : 16 * (n + 1) + 16 ≤ K.length) :
    Lies (w.setCells b (o + 16 * (n + 1)) (Lib.byteCells (rowK K (n + 1)))) b o (K.take (16 * (n + 1 + 1))) := fun i hi => by
  have hl := rowK_length hn
  have hlen : i < 16 * (n + 1 + 1) := by rw [List.length_take] at hi; omega
  rw [take_getD _ _ _ hlen]
  by_cases hlt : i < 16 * (n + 1)
  · rw [World.cell?_setCells_out b _ _ _ _ (fun _ _ => .inl (by show o + i < o + 16 * (n + 1); omega))]
    have := h i (by rw [List.length_take]; omega)
    rwa [take_getD _ _ _ hlt] at this
  · have hj : i - 16 * (n + 1) < (rowK K (n + 1)).length := by omega
    have := World.cell?_setCells_in b (Lib.byteCells (rowK K (n + 1))) (o + 16 * (n + 1)) w (fun j hj => ((there_part ht (o' := o + 16 * (n + 1)) (n' := 16) (by omega) (by omega)) j (by rw [byteCells_length] at hj; omega)).1) (i - 16 * (n + 1)) (by rw [byteCells_length]; exact hj)
    rw [show o + 16 * (n + 1) + (i - 16 * (n + 1)) = o + i by omega] at this
    rw [this]
    have hg := byteCells_get _ _ hj
    rw [List.getElem?_eq_getElem (by rw [byteCells_length]; exact hj)] at hg
    rw [Option.some.inj hg]
    have := rowK_get (K := K) (n := n + 1) (j := i - 16 * (n + 1)) (by omega)
    rw [show 16 * (n + 1) + (i - 16 * (n + 1)) = i by omega, List.getD_eq_getElem?_getD, List.getElem?_eq_getElem hj] at this
    rw [← this]
    rfl
theorem setCells_size (b : Nat) : ∀ (vs : List Value) (o : Nat) (w : World), (w.setCells b o vs).heap.size = w.heap.size
  | [], _, _ => rfl
  | v :: r, o, w => by rw [World.setCells, setCells_size b r (o + 1)]; simp [World.setCell]
theorem setCells_wr {g : Nat} : ∀ (vs : List Value) (o : Nat) (A w : World), Wr g A w → Wr g A (w.setCells g o vs)
  | [], _, _, _, h => h
  | v :: r, o, A, w, h => setCells_wr r (o + 1) A _ (h.setCell o v)

/-- What the code keeps of a key: the box's row, and the rounds' keys. -/
structure Cph (w : World) (gc bx : Nat) (K : List UInt8) : Prop where
  ptr : w.cell? ⟨gc, 0, none⟩ = some (.pointer (some ⟨bx, 0, none⟩))
  rows : Lies w gc 1 K
  box : By 70 w bx boxRow
theorem Cph.kp {w w' : World} {gc bx : Nat} {K : List UInt8} (h : Cph w gc bx K) (k : Kp w w') : Cph w' gc bx K := ⟨k.cell h.ptr, h.rows.kp k, h.box.kp k⟩
theorem Cph.wr {w w' : World} {gc bx gs : Nat} {K : List UInt8} (h : Cph w gc bx K) (k : Wr gs w w') (h1 : gc ≠ gs) (h2 : bx ≠ gs) : Cph w' gc bx K := ⟨k.cell h.ptr h1, h.rows.wr k h1, k.by h.box h2⟩

theorem zero_cipher : ∀ w, (zeroValue 54).run Try.prog w = .ok (.agg (#[.pointer none] ++ bcells (List.replicate 176 0))) w := (zero_of_info (n := 177) (by kernel_rfl)).1
theorem set_cipher (l : List UInt8) (v : Value) : (#[Value.pointer none] ++ bcells l).setIfInBounds 0 v = #[v] ++ bcells l := by
  apply Array.ext'
  simp

theorem cipher_start {w : World} {gc : Nat} {T : TypeId} {p : Value} {key : List UInt8} (hg : w.heap[gc]? = some (.cells ((#[p] ++ bcells (List.replicate 176 0)).toList.take 1 ++ (Lib.byteCells key ++ (#[p] ++ bcells (List.replicate 176 0)).toList.drop (1 + (Lib.byteCells key).length))).toArray T (0, 0))) (hk : key.length = 16) :
    w.cell? ⟨gc, 0, none⟩ = some p ∧ Lies w gc 1 key ∧ w.there gc 1 176 := by
  have e : ((#[p] ++ bcells (List.replicate 176 0)).toList.take 1 ++ (Lib.byteCells key ++ (#[p] ++ bcells (List.replicate 176 0)).toList.drop (1 + (Lib.byteCells key).length))) = p :: (Lib.byteCells key ++ (Lib.byteCells (List.replicate 176 0)).drop 16) := by
    rw [byteCells_length, hk]
    simp [bcells]
  rw [e] at hg
  have hl : (Lib.byteCells key ++ (Lib.byteCells (List.replicate 176 0)).drop 16).length = 176 := by rw [List.length_append, List.length_drop, byteCells_length, byteCells_length, hk, List.length_replicate]
  refine ⟨by rw [cell_of_row _ _ _ _ _ _ hg]; simp, fun i hi => ?_, fun j hj => ⟨?_, ?_⟩⟩
  · rw [cell_of_row _ _ _ _ _ _ hg, List.getElem?_toArray, Nat.add_comm 1 i, List.getElem?_cons_succ, List.getElem?_append_left (by rw [byteCells_length]; exact hi), byteCells_get key i hi, List.getD_eq_getElem?_getD, List.getElem?_eq_getElem hi]
    rfl
  · rw [cell_of_row _ _ _ _ _ _ hg, List.getElem?_toArray, Nat.add_comm 1 j, List.getElem?_cons_succ, List.getElem?_eq_getElem (by omega)]
    rfl
  · simp [World.frozen?, hg]
theorem keysL_take {key : List UInt8} (h : key.length = 16) : (keysL key).take (16 * (0 + 1)) = key := by
  have := keysL_first h
  unfold rowK at this
  simpa using this

set_option maxRecDepth 100000 in
set_option maxHeartbeats 2000000 in
theorem newCipher_any (u : Value) (key : List UInt8) (w : World) (hu : Rd w u key) (hk : key.length = 16) :
    Calls Try.prog 24 #[u] w fun e w' => (∃ gc bx, e = .returned (.pointer (some ⟨gc, 0, none⟩)) ∧ Cph w' gc bx (keysL key) ∧ w.heap.size ≤ gc ∧ w.heap.size ≤ bx) ∧ Kp w w' := by
  have U := u8
  have hsz8 : (Try.prog.info? 5).map (·.size) = some 1 := by kernel_rfl
  obtain ⟨ad, c, rfl, hc1, hc2⟩ := hu.shape
  rw [hk] at hc1 hu ⊢
  obtain ⟨ab, ao, rfl, hab, hac⟩ := hu.at 0 (by omega)
  have z1 := zero_cipher
  have HS := Lib.hid (set_cipher (List.replicate 176 0))
  have HST := Lib.hid (fun (w : World) (gc : Nat) (T : TypeId) (p : Value) h => cipher_start (w := w) (gc := gc) (T := T) (p := p) (key := key) h hk)
  have hs : (#[Value.pointer none] ++ bcells (List.replicate 176 0)).size = 177 := by rw [Array.size_append, bcells_size]; rfl
  obtain ⟨Z, hZ⟩ : ∃ Z, #[Value.pointer none] ++ bcells (List.replicate 176 0) = Z := ⟨_, rfl⟩
  rw [hZ] at z1 HS hs
  have hz : ¬ Z = #[] := fun h => by rw [h] at hs; simp at hs
  clear hZ
  have HL := Lib.hid (keysL_length hk)
  have HT := Lib.hid (keysL_take hk)
  have HNX := Lib.hid (keys_next hk)
  generalize keysL key = K at *
  go_enter Try.func24, Try.ntmps24
  go_wp2_with fail
  refine (aesBoxes_any w).mono ?_; rintro _ w1 ⟨⟨bx, rfl, hX, hbx⟩, k1⟩
  have hge := k1.size
  obtain ⟨Y, hY⟩ : ∃ Y, Z.setIfInBounds 0 (Value.pointer (some ⟨bx, 0, none⟩)) = Y := ⟨_, rfl⟩
  have hYZ := HS.out (Value.pointer (some ⟨bx, 0, none⟩))
  rw [hY] at hYZ
  have HY := Lib.hid hYZ
  have hYs : Y.size = 177 := by rw [← hY, Array.size_setIfInBounds, hs]
  clear hYZ
  have HSRC : Hid (∀ W, Kp w W → ∀ j v, (Lib.byteCells key)[j]? = some v → W.cell? ((⟨ab, ao, none⟩ : Addr).add j) = some v) := fun W hW j v hj => by
    have hl : j < key.length := by
      have := (List.getElem?_eq_some_iff.1 hj).1
      rwa [byteCells_length] at this
    rw [byteCells_get key j hl] at hj
    cases hj
    have := hW.cell (hac j (by omega))
    rw [Addr.add_mid, this, List.getD_eq_getElem?_getD, List.getElem?_eq_getElem hl]
    rfl
  have HBL := Lib.hid (byteCells_length key)
  clear hac hu
  go_wp2_with (refine wpList_copy_own (cs := Lib.byteCells key) rfl (.tmp 13) (.tmp 14) 22 22 rfl 5 Try.underlying22 hsz8 w1.heap.size 1 16 16 ⟨ab, ao, none⟩ 16 c rfl rfl Y 54 (heap_alloc_new w1 _) (by rw [HBL.out, hk]; rfl) (HSRC.out _ (k1.alloc _)) (by rw [HBL.out, hk, hYs]; omega) (fun v hv => by obtain ⟨b, _, rfl⟩ := List.mem_map.1 hv; rfl) ?_)
  obtain ⟨W2, hW2⟩ : ∃ W, (w1.alloc (.cells Y 54)).setRow w1.heap.size (Y.toList.take 1 ++ (Lib.byteCells key ++ Y.toList.drop (1 + (Lib.byteCells key).length))).toArray = W := ⟨_, rfl⟩
  rw [hW2]
  have hg : W2.heap[w1.heap.size]? = some (.cells (Y.toList.take 1 ++ (Lib.byteCells key ++ Y.toList.drop (1 + (Lib.byteCells key).length))).toArray 54 (0, 0)) := by
    rw [← hW2]
    exact setRow_heap _ _ Y _ _ _ (heap_alloc_new w1 _)
  have k2 : Kp w W2 := by
    rw [← hW2]
    exact Go.Proofs.Ytfnkcdcbjcoefaa.below_setRow (k1.alloc _) hge _
  have X2 : By 70 W2 bx boxRow := by
    rw [← hW2]
    exact (Go.Proofs.Ytfnkcdcbjcoefaa.setRow_other _ _ _ _ (by have := hX.lt; omega)).trans (hX.kp ((Kp.refl w1).alloc _))
  rw [HY.out] at hg
  obtain ⟨p2, l2, t2⟩ := HST.out _ _ _ _ hg
  have hbx2 : bx ≠ w1.heap.size := by have := hX.lt; omega
  rw [← HT.out] at l2
  have hgc : w.heap.size ≤ w1.heap.size := hge
  generalize w1.heap.size = gc at *
  clear hg hW2 HBL HSRC HST hY HY hYs hX k1 hs HS z1 hz hk U hsz8 HT
  have hu51 : Try.prog.underlying 51 = some (.array 16 5) := Try.underlying51
  have hi51 : (Try.prog.info? 51).map (·.size) = some 16 := by kernel_rfl
  go_loopw [4, 16] (fun r p wr => ∃ n : Nat, n ≤ 10 ∧ p = .int .i64 n ∧ r = .int .u8 ((rcon n).toNat : Int) ∧ wr.cell? ⟨gc, 0, none⟩ = some (.pointer (some ⟨bx, 0, none⟩)) ∧ Lies wr gc 1 (K.take (16 * (n + 1))) ∧ wr.there gc 1 176 ∧ By 70 wr bx boxRow ∧ Kp w wr) (fun _ p _ => 10 - (intOf p).toNat)
  case atStart => exact ⟨0, by omega, rfl, rfl, p2, l2, t2, X2, k2⟩
  case round =>
    clear p2 l2 t2 X2 k2
    obtain ⟨n, hn, rfl, rfl, hp, hl, ht, hX, hkp⟩ := hrel
    by_cases hlt : n < 10
    · have q1 : (n : Int) < 10 := by omega
      have q2 : (n : Int) < 11 := by omega
      have q3 : (n : Int) + 1 < 11 := by omega
      have q4 : (0 : Int) ≤ (n : Int) + 1 := by omega
      have i1 : IntKind.i64.wrap ((n : Int) + 1) = (n : Int) + 1 := IntWalk.i64_in _ (by omega)
      have i2 : ((n : Int) + 1).toNat = n + 1 := by omega
      have hKl := HL.out
      have hrow : rowK (K.take (16 * (n + 1))) n = rowK K n := by
        refine get_ext 16 _ _ (rowK_length (by rw [List.length_take]; omega)) (rowK_length (by omega)) fun i hi => ?_
        rw [rowK_get hi, rowK_get hi, take_getD _ _ _ (by omega)]
      have hr := hl.range (n := n) (by rw [List.length_take]; omega)
      rw [hrow, Nat.mul_comm 16 n] at hr
      have ht2 := there_part ht (o' := 1 + 16 * (n + 1)) (n' := 16) (by omega) (by omega)
      rw [Nat.mul_comm 16 (n + 1)] at ht2
      have hlen1 : (Lib.byteCells (rowK K n)).length = 16 := by rw [byteCells_length]; exact rowK_length (by omega)
      have hlen2 : (Lib.byteCells (rowK K (n + 1))).length = 16 := by rw [byteCells_length]; exact rowK_length (by omega)
      have hNX := HNX.out n hlt
      have hone : ∀ v ∈ Lib.byteCells (rowK K (n + 1)), v.oneCell' = true := fun v hv => by obtain ⟨b, _, rfl⟩ := List.mem_map.1 hv; rfl
      have hnext : Calls Try.prog 37 #[.pointer (some ⟨gc, 0, none⟩), .agg (Lib.byteCells (rowK K n)).toArray, .int .u8 ((rcon n).toNat : Int)] wr.drew fun e w' => e = .returned (.agg (Lib.byteCells (rowK K (n + 1))).toArray) ∧ Kp wr.drew w' :=
        next_any gc bx (rowK K n) (rowK K (n + 1)) (rcon n) wr.drew (rowK_length (by omega)) hNX hp hX.drew
      have HNEXT := Lib.hid hnext
      have HD := Lib.hid (fun W => double_any (rcon n) W)
      have HK := Lib.hid hkp
      have HP := Lib.hid hp
      have HLI := Lib.hid hl
      have HTH := Lib.hid ht
      have HXX := Lib.hid hX
      have HRW := Lib.hid hrow
      generalize hcs1 : Lib.byteCells (rowK K n) = cs1 at *
      generalize hcs2 : Lib.byteCells (rowK K (n + 1)) = cs2 at *
      have HC := Lib.hid hcs2
      clear hnext hNX hp hl ht hX hkp hrow hcs1 hcs2
      go_wp2_with fail
      go_region_held3 (fun W => W.rangeAt gc (1 + n * 16) cs1 ∧ W.there gc (1 + (n + 1) * 16) 16)
        (first
          | (refine ⟨(World.rangeAt_drew _ _ _ _).2 ?_, (World.there_drew _ _ _ _).2 ?_⟩ <;> assumption)
          | (go_split_ands; exact ⟨rangeAt_kp (by assumption) (by assumption), there_kp (by assumption) (by assumption)⟩)
          | (go_split_ands; exact ⟨World.rangeAt_setCells_apart (by assumption) _ _ _ (by omega), World.there_setCells (by assumption) _ _ _⟩))
        (first
          | (go_at_call 37; refine HNEXT.out.mono ?_; rintro _ w7 ⟨rfl, hk7⟩))
      have k7 := hk7
      have hgs : w.heap.size ≤ w7.heap.size := Nat.le_trans HK.out.size hk7.size
      have hw8 := setCells_wr (g := gc) cs2 (1 + (n + 1) * 16) w7 w7 (Wr.refl gc w7)
      have hk8 : Kp w (w7.setCells gc (1 + (n + 1) * 16) cs2) := Below.trans (show Below w.heap.size w w7 from HK.out.drew.trans hk7) (hw8.below hgs hgc)
      have hp8 : (w7.setCells gc (1 + (n + 1) * 16) cs2).cell? ⟨gc, 0, none⟩ = some (.pointer (some ⟨bx, 0, none⟩)) := by
        rw [World.cell?_setCells_out gc _ _ _ _ (fun _ _ => .inl (by show 0 < 1 + (n + 1) * 16; omega))]
        exact hk7.cell HP.out
      have ht8 : (w7.setCells gc (1 + (n + 1) * 16) cs2).there gc 1 176 := World.there_setCells (there_kp hk7 ((World.there_drew _ _ _ _).2 HTH.out)) _ _ _
      have hX8 := hw8.by (HXX.out.drew.kp hk7) hbx2
      have hl8 : Lies (w7.setCells gc (1 + (n + 1) * 16) cs2) gc 1 (K.take (16 * (n + 1 + 1))) := by
        rw [← HC.out, Nat.mul_comm (n + 1) 16]
        exact Lies.store (Lies.kp (show Lies wr.drew gc 1 _ from HLI.out) hk7) (by rw [HL.out]; exact there_kp hk7 ((World.there_drew _ _ _ _).2 HTH.out)) (by rw [HL.out]; omega)
      generalize w7.setCells gc (1 + (n + 1) * 16) cs2 = W8 at *
      have HP8 := Lib.hid hp8
      have HL8 := Lib.hid hl8
      have HT8 := Lib.hid ht8
      clear hp8 hl8 ht8 hw8
      go_wp2_with (go_at_call 28; refine (HD.out _).mono ?_; rintro _ _ ⟨rfl, rfl⟩)
      go_roundw
      case rel => exact ⟨n + 1, by omega, by go_num, rfl, HP8.out, HL8.out, HT8.out, hX8, hk8⟩
      case measure => simp [intOf]; omega
    · obtain rfl : n = 10 := by omega
      have hKl := HL.out
      rw [List.take_of_length_le (by omega)] at hl
      go_wp2_with fail
      go_ret
      exact ⟨⟨gc, bx, rfl, ⟨hp, hl, hX⟩, hgc, hbx⟩, hkp⟩
end Go.Proofs.Ytfnkcdcbjcoefaa
