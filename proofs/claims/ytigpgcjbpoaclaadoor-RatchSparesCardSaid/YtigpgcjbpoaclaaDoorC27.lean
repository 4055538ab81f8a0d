import Derived.Test.YtigpgcjbpoaclaaDoorC26
set_option linter.unusedVariables false
set_option linter.unusedSimpArgs false
namespace Go.Proofs.YtigpgcjbpoaclaaDoor
open Go.RowKit
def mlsB : List UInt8 := [77, 76, 83, 32, 49, 46, 48, 32]
def labI (label ctx : List UInt8) (n : Nat) : List UInt8 := be 2 n ++ rowB (mlsB ++ label) ++ rowB ctx
def labR (k label ctx : List UInt8) (n : Int) : List UInt8 := expR k (labI label ctx n.toNat) n
theorem labI_length (l ctx : List UInt8) (n : Nat) (hl : l.length ≤ 300) (hc : ctx.length ≤ 1400) : (labI l ctx n).length ≤ 1800 := by
  have h1 := row_len (x := mlsB ++ l) (by rw [List.length_append]; simp [mlsB]; omega)
  have h2 := row_len (x := ctx) (by omega)
  have h3 := lenBytes_le (mlsB ++ l).length
  have h4 := lenBytes_le ctx.length
  have h5 : mlsB.length = 8 := rfl
  have h6 : (mlsB ++ l).length = 8 + l.length := by rw [List.length_append, h5]
  unfold labI
  rw [List.length_append, List.length_append, be_length, h1, h2]
  omega
theorem kp_bytesWorld (w : World) (e : TypeId) (s : ByteArray) : Kp w (Lib.bytesWorld w e s) :=
  ⟨rfl, rfl, rfl, by rw [Lib.bytesWorld_size]; omega, fun k hk => Lib.bytesWorld_at_old w e s k hk⟩
theorem rd_bytesWorld (w : World) (e : TypeId) (s : ByteArray) (h : s.size ≤ 1000000) : Rd (Lib.bytesWorld w e s) (.slice (some ⟨w.heap.size, 0, none⟩) s.size (grownCap w s.size 0 e)) s.data.toList := by
  have hl : s.data.toList.length = s.size := rfl
  refine ⟨_, _, by rw [hl], by rw [hl]; exact grownCap_ge w _ _ _, grownCap_le_maxLen w _ _ _ (by unfold maxLen; omega), fun h => (by cases h), fun x hx i hi => ?_⟩
  cases hx
  have e1 : (⟨w.heap.size, 0, none⟩ : Addr).add i = ⟨w.heap.size, i, none⟩ := by unfold Addr.add; split <;> simp_all
  rw [e1, Lib.bytesWorld_cell w e s i (by omega), List.getD_eq_getElem?_getD, List.getElem?_eq_getElem hi]
  rfl
theorem RL.lits4 {w : World} {T : TypeId} {v1 v2 v3 v4 : Value} {l1 l2 l3 l4 : List UInt8} (h1 : Rd w v1 l1) (h2 : Rd w v2 l2) (h3 : Rd w v3 l3) (h4 : Rd w v4 l4) : RL (w.alloc (.cells #[v1, v2, v3, v4] T)) (.slice (some ⟨w.heap.size, 0, none⟩) 4 4) [l1, l2, l3, l4] :=
  RL.cons (us := [v2, v3, v4]) (ls := [l2, l3, l4]) (World.ownsRow_lit w #[v1, v2, v3, v4] 4 (Nat.le_refl _) (by unfold maxLen; omega) rfl) (h1.kp ((Kp.refl _).alloc _)) rfl (fun i hi => by
    have hi2 : i < 3 := by simpa using hi
    match i, hi2 with
    | 0, _ => exact h2.kp ((Kp.refl _).alloc _)
    | 1, _ => exact h3.kp ((Kp.refl _).alloc _)
    | 2, _ => exact h4.kp ((Kp.refl _).alloc _))
theorem Rd.sl {w : World} {v : Value} {l : List UInt8} (h : Rd w v l) : ∃ a n c, v = .slice a n c := by
  obtain ⟨a, c, e, _⟩ := h.shape
  exact ⟨_, _, _, e⟩
set_option maxHeartbeats 1000000 in
theorem labelled_yes (s : ByteArray) (vc : Value) (ctx : List UInt8) (n : Nat) (w : World) (hc : Rd w vc ctx) (hs : s.size ≤ 300) (hcl : ctx.length ≤ 1400) (hn : (n : Int) ≤ 65535) :
    Calls Tryd.prog 69 #[.string s, vc, .int .i64 n] w fun e w' => (∃ v, e = .returned (.tuple #[v, .int .i64 0]) ∧ Ow 5 w' w.heap.size v (labI s.data.toList ctx n)) ∧ Kp w w' := by
  obtain ⟨ai, ci, rfl, _, _⟩ := hc.shape
  have hnum := Lib.hid (fun W => num_any n 2 W (by omega))
  have hok : numOk (n : Int) 2 := ⟨by omega, by omega, by omega, by have : (256 : Int) ^ (2 : Int).toNat = 65536 := by decide
                                                                    omega⟩
  have e1 := num_yes hok
  have e1b : numB (n : Int) 2 = be 2 n := by rw [e1.2]; rfl
  have hrow := Lib.hid (fun W hW => row_any (.slice ai ctx.length ci) ctx W hW)
  have e2 := (row_ok (x := ctx) (by omega)).1
  have hsl : s.data.toList.length = s.size := rfl
  have e3 := row_ok (x := mlsB ++ s.data.toList) (by rw [List.length_append, hsl]; simp [mlsB]; omega)
  have e3l : lenE ((8 : Int) + s.size) = 0 := by unfold lenE; rw [if_neg (by omega)]
  have e3b : lenB ((8 : Int) + s.size) ++ (mlsB ++ s.data.toList) = rowB (mlsB ++ s.data.toList) := by
    rw [e3.2, List.length_append, hsl]
    unfold lenB
    rw [if_pos e3l]
    congr 2
  have hlen := Lib.hid (fun W => len_any ((8 : Int) + s.size) W)
  rw [e1.1, e1b] at hnum
  rw [e2] at hrow
  rw [e3l] at hlen
  have hcv := fun W (S : ByteArray) => Lib.run_convert_string_bytes (P := Tryd.prog) W 9 22 5 S Tryd.underlying9 Tryd.underlying22 Tryd.underlying5
  have hs8 : (s.size : Int) ≤ 300 := by omega
  have HO := Lib.hid (And.intro e3b hs)
  clear hok e1 e1b e2 e3 e3l e3b hs hn
  go_enter Tryd.func69, Tryd.ntmps69
  go_wp2_with (first | (go_at_call 65; refine (hnum.out _).mono ?_; rintro e w1 ⟨v1, rfl, o1, k1⟩; obtain ⟨a1, n1, c1, rfl⟩ := o1.rd.sl) | (go_at_call 75; refine (hrow.out _ (hc.kp k1)).mono ?_; rintro e w2 ⟨v2, rfl, o2, k2⟩; obtain ⟨a2, n2, c2, rfl⟩ := o2.rd.sl) | (go_at_call 76; refine (hlen.out _).mono ?_; rintro e w3 ⟨v3, rfl, o3, k3⟩; obtain ⟨a3, n3, c3, rfl⟩ := o3.rd.sl))
  have kb := kp_bytesWorld w3 5 (⟨#[77, 76, 83, 32, 49, 46, 48, 32]⟩ ++ s)
  have hsz : (⟨#[77, 76, 83, 32, 49, 46, 48, 32]⟩ ++ s : ByteArray).size = 8 + s.size := by rw [ByteArray.size_append]; rfl
  have hdt : (⟨#[77, 76, 83, 32, 49, 46, 48, 32]⟩ ++ s : ByteArray).data.toList = mlsB ++ s.data.toList := by rw [ByteArray.data_append, Array.toList_append]; rfl
  have hrb := rd_bytesWorld w3 5 (⟨#[77, 76, 83, 32, 49, 46, 48, 32]⟩ ++ s) (by rw [hsz]; omega)
  rw [hdt, hsz] at hrb
  have hfl : ([be 2 n, lenB ((8 : Int) + s.size), mlsB ++ s.data.toList, rowB ctx] : List (List UInt8)).flatten = labI s.data.toList ctx n := by
    unfold labI
    rw [← HO.out.1]
    simp only [List.flatten_cons, List.flatten_nil, List.append_nil, List.append_assoc]
  have hll := labI_length s.data.toList ctx n (by rw [hsl]; omega) hcl
  have hl2 : 2 ≤ (labI s.data.toList ctx n).length := by unfold labI; rw [List.length_append, List.length_append, be_length]; omega
  refine (concat_rows _ [be 2 n, lenB ((8 : Int) + s.size), mlsB ++ s.data.toList, rowB ctx] _ (RL.lits4 (((o1.rd.kp k2).kp k3).kp kb) (o3.rd.kp kb) hrb ((o2.rd.kp k3).kp kb)) (by rw [hfl]; omega) (by rw [hfl]; omega) (by simp)).mono ?_
  rw [hfl]
  rintro e w5 ⟨⟨v5, rfl, o5⟩, k5⟩
  go_wp2_with fail
  go_ret2
  have kk : Kp w w5 := ((((k1.trans k2).trans k3).trans kb).trans ((Kp.refl _).alloc _)).trans k5
  have kl := ((((k1.trans k2).trans k3).trans kb).trans ((Kp.refl _).alloc (.cells #[.slice a1 n1 c1, .slice a3 n3 c3, .slice (some ⟨w3.heap.size, 0, none⟩) (8 + s.size) (grownCap w3 (8 + s.size) 0 5), .slice a2 n2 c2] 22))).size
  exact ⟨⟨_, rfl, o5.mono kl⟩, kk⟩
set_option maxHeartbeats 1000000 in
theorem labelled_no (s : ByteArray) (vc : Value) (ctx : List UInt8) (n : Int) (w : World) (hc : Rd w vc ctx) (hn : n < 0 ∨ 65535 < n) (hn2 : -9223372036854775808 ≤ n ∧ n ≤ 9223372036854775807) :
    Calls Tryd.prog 69 #[.string s, vc, .int .i64 n] w fun e w' => e = .returned (.tuple #[.slice none 0 0, .int .i64 1]) ∧ Kp w w' := by
  obtain ⟨ai, ci, rfl, _, _⟩ := hc.shape
  have hnum := Lib.hid (fun W => num_any n 2 W hn2)
  have hok : ¬ numOk n 2 := fun h => by
    have h4 := h.2.2.2
    have : (256 : Int) ^ (2 : Int).toNat = 65536 := by decide
    have h3 := h.2.2.1
    omega
  rw [(num_no hok).1] at hnum
  clear hok hn hn2
  go_enter Tryd.func69, Tryd.ntmps69
  go_wp2_with (first | (go_at_call 65; refine (hnum.out _).mono ?_; rintro e w1 ⟨v1, rfl, o1, k1⟩; obtain ⟨a1, n1, c1, rfl⟩ := o1.rd.sl))
  go_ret2
  exact ⟨rfl, k1⟩
set_option maxHeartbeats 1000000 in
theorem label_any (vk : Value) (s : ByteArray) (vc : Value) (k ctx : List UInt8) (n : Int) (w : World) (hk : Rd w vk k) (hc : Rd w vc ctx) (hs : s.size ≤ 300) (hcl : ctx.length ≤ 1400) (hkl : k.length ≤ 2000) (hn2 : -9223372036854775808 ≤ n ∧ n ≤ 9223372036854775807) :
    Calls Tryd.prog 64 #[vk, .string s, vc, .int .i64 n] w fun e w' => (∃ v, e = .returned (.tuple #[v, .int .i64 (expE n)]) ∧ Ow 5 w' w.heap.size v (labR k s.data.toList ctx n)) ∧ Kp w w' := by
  have hsl : s.data.toList.length = s.size := rfl
  by_cases h1 : n < 0 ∨ 65535 < n
  · have hno := exp_no k (labI s.data.toList ctx n.toNat) (n := n) (by omega)
    have HL := Lib.hid (labelled_no s vc ctx n w hc h1 hn2)
    unfold labR
    rw [hno.1, hno.2]
    clear h1 hn2
    go_enter Tryd.func64, Tryd.ntmps64
    go_wp2_with (first | (go_at_call 69; refine HL.out.mono ?_; rintro e w1 ⟨rfl, k1⟩))
    go_ret2
    exact ⟨⟨_, rfl, Ow.nil _ _ _⟩, k1⟩
  · obtain ⟨n, rfl⟩ := Int.eq_ofNat_of_zero_le (show 0 ≤ n by omega)
    have HL := Lib.hid (labelled_yes s vc ctx n w hc hs hcl (by omega))
    have hll := labI_length s.data.toList ctx n (by omega) hcl
    have HR : Hid (labR k s.data.toList ctx n = expR k (labI s.data.toList ctx n) n) := rfl
    rw [HR.out]
    generalize labI s.data.toList ctx n = I at *
    have HX := Lib.hid (fun W v5 (hk' : Rd W vk k) (h5 : Rd W v5 I) => expand_any vk v5 k I n W hk' h5 hkl hll)
    clear h1 hn2
    go_enter Tryd.func64, Tryd.ntmps64
    go_wp2_with (first | (go_at_call 69; refine HL.out.mono ?_; rintro e w1 ⟨⟨v1, rfl, o1⟩, k1⟩; obtain ⟨a1, n1, c1, rfl⟩ := o1.rd.sl) | (go_at_call 70; refine (HX.out _ _ (hk.kp k1) o1.rd).mono ?_; rintro e w2 ⟨⟨v2, rfl, o2⟩, k2⟩; obtain ⟨a2, n2, c2, rfl⟩ := o2.rd.sl))
    go_ret2
    exact ⟨⟨_, rfl, o2.mono k1.size⟩, k1.trans k2⟩
set_option maxHeartbeats 1000000 in
theorem derive_any (vk : Value) (s : ByteArray) (k : List UInt8) (w : World) (hk : Rd w vk k) (hs : s.size ≤ 300) (hkl : k.length ≤ 2000) :
    Calls Tryd.prog 53 #[vk, .string s] w fun e w' => (∃ v, e = .returned (.tuple #[v, .int .i64 0]) ∧ Ow 5 w' w.heap.size v (expL k (labI s.data.toList [] 32) 32)) ∧ Kp w w' := by
  have HL := Lib.hid (label_any vk s (.slice none 0 0) k [] 32 w hk (rd_nil w) hs (by simp) hkl (by omega))
  have e1 : expE 32 = 0 := rfl
  have e2 : labR k s.data.toList [] 32 = expL k (labI s.data.toList [] 32) 32 := rfl
  rw [e1, e2] at HL
  go_enter Tryd.func53, Tryd.ntmps53
  go_wp2_with (first | (go_at_call 64; refine HL.out.mono ?_; rintro e w1 ⟨⟨v1, rfl, o1⟩, k1⟩; obtain ⟨a1, n1, c1, rfl⟩ := o1.rd.sl))
  go_ret2
  exact ⟨⟨_, rfl, o1⟩, k1⟩
end Go.Proofs.YtigpgcjbpoaclaaDoor
