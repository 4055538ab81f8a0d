import Derived.Test.YtigpgcjbpoaclaaGreatDoorB24
set_option linter.unusedVariables false
set_option linter.unusedSimpArgs false
namespace Go.Proofs.YtigpgcjbpoaclaaGreatDoor
open Go.RowKit
def mlsB : List UInt8 := [77, 76, 83, 32, 49, 46, 48, 32]
def labI (label ctx : List UInt8) (n : Nat) : List UInt8 := be 2 n ++ rowB (mlsB ++ label) ++ rowB ctx
def labR (k label ctx : List UInt8) (n : Int) : List UInt8 := expR k (labI label ctx n.toNat) n
theorem labI_length (l ctx : List UInt8) (n : Nat) (hl : l.length ≤ 300) (hc : ctx.length ≤ 1400) : (labI l ctx n).length ≤ 1800 := by
  have h1 := row_len (x := mlsB ++ l) (by rw [List.length_append]; simp [mlsB]; omega)
  have h2 := row_len (x := ctx) (by omega)
  have h3 := lenBytes_le (mlsB ++ l).length
  have h4 := lenBytes_le ctx.length
  have h5 : mlsB.length = 8 := rfl
  have h6 : (mlsB ++ l).length = 8 + l.length := by rw [List.length_append, h5]
  unfold labI
  rw [List.length_append, List.length_append, be_length, h1, h2]
  omega
theorem kp_bytesWorld (w : World) (e : TypeId) (s : ByteArray) : Kp w (Lib.bytesWorld w e s) :=
  ⟨rfl, rfl, rfl, by rw [Lib.bytesWorld_size]; omega, fun k hk => Lib.bytesWorld_at_old w e s k hk⟩
theorem rd_bytesWorld (w : World) (e : TypeId) (s : ByteArray) (h : s.size ≤ 1000000) : Rd (Lib.bytesWorld w e s) (.slice (some ⟨w.heap.size, 0, none⟩) s.size (grownCap w s.size 0 e)) s.data.toList := by
  have hl : s.data.toList.length = s.size := rfl
  refine ⟨_, _, by rw [hl], by rw [hl]; exact grownCap_ge w _ _ _, grownCap_le_maxLen w _ _ _ (by unfold maxLen; omega), fun h => (by cases h), fun x hx i hi => ?_⟩
  cases hx
  have e1 : (⟨w.heap.size, 0, none⟩ : Addr).add i = ⟨w.heap.size, i, none⟩ := by unfold Addr.add; split <;> simp_all
  rw [e1, Lib.bytesWorld_cell w e s i (by omega), List.getD_eq_getElem?_getD, List.getElem?_eq_getElem hi]
  rfl
theorem RL.lits4 {w : World} {T : TypeId} {v1 v2 v3 v4 : Value} {l1 l2 l3 l4 : List UInt8} (h1 : Rd w v1 l1) (h2 : Rd w v2 l2) (h3 : Rd w v3 l3) (h4 : Rd w v4 l4) : RL (w.alloc (.cells #[v1, v2, v3, v4] T)) (.slice (some ⟨w.heap.size, 0, none⟩) 4 4) [l1, l2, l3, l4] :=
  RL.cons (us := [v2, v3, v4]) (ls := [l2, l3, l4]) (World.ownsRow_lit w #[v1, v2, v3, v4] 4 (Nat.le_refl _) (by unfold maxLen; omega) rfl) (h1.kp ((Kp.refl _).alloc _)) rfl (fun i hi => by
    have hi2 : i < 3 := by simpa using hi
    match i, hi2 with
    | 0, _ => exact h2.kp ((Kp.refl _).alloc _)
    | 1, _ => exact h3.kp ((Kp.refl _).alloc _)
    | 2, _ => exact h4.kp ((Kp.refl _).alloc _))
theorem Rd.sl {w : World} {v : Value} {l : List UInt8} (h : Rd w v l) : ∃ a n c, v = .slice a n c := by
  obtain ⟨a, c, e, _⟩ := h.shape
  exact ⟨_, _, _, e⟩
set_option maxHeartbeats 1000000 in
theorem labelled_yes (s : ByteArray) (vc : Value) (ctx : List UInt8) (n : Nat) (w : World) (hc : Rd w vc ctx) (hs : s.size ≤ 300) (hcl : ctx.length ≤ 1400) (hn : (n : Int) ≤ 65535) :
    Calls Tryz.prog 70 #[.string s, vc, .int .i64 n] w fun e w' => (∃ v, e = .returned (.tuple #[v, .int .i64 0]) ∧ Ow 5 w' w.heap.size v (labI s.data.toList ctx n)) ∧ Kp w w' := by
  obtain ⟨ai, ci, rfl, _, _⟩ := hc.shape
  have hnum := Lib.hid (fun W => num_any n 2 W (by omega))
  have hok : numOk (n : Int) 2 := ⟨by omega, by omega, by omega, by have : (256 : Int) ^ (2 : Int).toNat = 65536 := by decide
                                                                    omega⟩
  have e1 := num_yes hok
  have e1b : numB (n : Int) 2 = be 2 n := by rw [e1.2]; rfl
  have hrow := Lib.hid (fun W hW => row_any (.slice ai ctx.length ci) ctx W hW)
  have e2 := (row_ok (x := ctx) (by omega)).1
  have hsl : s.data.toList.length = s.size := rfl
  have e3 := row_ok (x := mlsB ++ s.data.toList) (by rw [List.length_append, hsl]; simp [mlsB]; omega)
  have e3l : lenE ((8 : Int) + s.size) = 0 := by unfold lenE; rw [if_neg (by omega)]
  have e3b : lenB ((8 : Int) + s.size) ++ (mlsB ++ s.data.toList) = rowB (mlsB ++ s.data.toList) := by
    rw [e3.2, List.length_append, hsl]
    unfold lenB
    rw [if_pos e3l]
    congr 2
  have hlen := Lib.hid (fun W => len_any ((8 : Int) + s.size) W)
  rw [e1.1, e1b] at hnum
  rw [e2] at hrow
  rw [e3l] at hlen
  have hcv := fun W (S : ByteArray) => Lib.run_convert_string_bytes (P := Tryz.prog) W 9 22 5 S Tryz.underlying9 Tryz.underlying22 Tryz.underlying5
  have hs8 : (s.size : Int) ≤ 300 := by omega
  have HO := Lib.hid (And.intro e3b hs)
  clear hok e1 e1b e2 e3 e3l e3b hs hn
  go_enter Tryz.func70, Tryz.ntmps70
  go_wp2_with (first | (go_at_call 68; refine (hnum.out _).mono ?_; rintro e w1 ⟨v1, rfl, o1, k1⟩; obtain ⟨a1, n1, c1, rfl⟩ := o1.rd.sl) | (go_at_call 78; refine (hrow.out _ (hc.kp k1)).mono ?_; rintro e w2 ⟨v2, rfl, o2, k2⟩; obtain ⟨a2, n2, c2, rfl⟩ := o2.rd.sl) | (go_at_call 79; refine (hlen.out _).mono ?_; rintro e w3 ⟨v3, rfl, o3, k3⟩; obtain ⟨a3, n3, c3, rfl⟩ := o3.rd.sl))
  have kb := kp_bytesWorld w3 5 (⟨#[77, 76, 83, 32, 49, 46, 48, 32]⟩ ++ s)
  have hsz : (⟨#[77, 76, 83, 32, 49, 46, 48, 32]⟩ ++ s : ByteArray).size = 8 + s.size := by rw [ByteArray.size_append]; rfl
  have hdt : (⟨#[77, 76, 83, 32, 49, 46, 48, 32]⟩ ++ s : ByteArray).data.toList = mlsB ++ s.data.toList := by rw [ByteArray.data_append, Array.toList_append]; rfl
  have hrb := rd_bytesWorld w3 5 (⟨#[77, 76, 83, 32, 49, 46, 48, 32]⟩ ++ s) (by rw [hsz]; omega)
  rw [hdt, hsz] at hrb
  have hfl : ([be 2 n, lenB ((8 : Int) + s.size), mlsB ++ s.data.toList, rowB ctx] : List (List UInt8)).flatten = labI s.data.toList ctx n := by
    unfold labI
    rw [← HO.out.1]
    simp only [List.flatten_cons, List.flatten_nil, List.append_nil, List.append_assoc]
  have hll := labI_length s.data.toList ctx n (by rw [hsl]; omega) hcl
  have hl2 : 2 ≤ (labI s.data.toList ctx n).length := by unfold labI; rw [List.length_append, List.length_append, be_length]; omega
  refine (concat_rows _ [be 2 n, lenB ((8 : Int) + s.size), mlsB ++ s.data.toList, rowB ctx] _ (RL.lits4 (((o1.rd.kp k2).kp k3).kp kb) (o3.rd.kp kb) hrb ((o2.rd.kp k3).kp kb)) (by rw [hfl]; omega) (by rw [hfl]; omega) (by simp)).mono ?_
  rw [hfl]
  rintro e w5 ⟨⟨v5, rfl, o5⟩, k5⟩
  go_wp2_with fail
  go_ret2
  have kk : Kp w w5 := ((((k1.trans k2).trans k3).trans kb).trans ((Kp.refl _).alloc _)).trans k5
  have kl := ((((k1.trans k2).trans k3).trans kb).trans ((Kp.refl _).alloc (.cells #[.slice a1 n1 c1, .slice a3 n3 c3, .slice (some ⟨w3.heap.size, 0, none⟩) (8 + s.size) (grownCap w3 (8 + s.size) 0 5), .slice a2 n2 c2] 22))).size
  exact ⟨⟨_, rfl, o5.mono kl⟩, kk⟩
set_option maxHeartbeats 1000000 in
theorem labelled_no (s : ByteArray) (vc : Value) (ctx : List UInt8) (n : Int) (w : World) (hc : Rd w vc ctx) (hn : n < 0 ∨ 65535 < n) (hn2 : -9223372036854775808 ≤ n ∧ n ≤ 9223372036854775807) :
    Calls Tryz.prog 70 #[.string s, vc, .int .i64 n] w fun e w' => e = .returned (.tuple #[.slice none 0 0, .int .i64 1]) ∧ Kp w w' := by
  obtain ⟨ai, ci, rfl, _, _⟩ := hc.shape
  have hnum := Lib.hid (fun W => num_any n 2 W hn2)
  have hok : ¬ numOk n 2 := fun h => by
    have h4 := h.2.2.2
    have : (256 : Int) ^ (2 : Int).toNat = 65536 := by decide
    have h3 := h.2.2.1
    omega
  rw [(num_no hok).1] at hnum
  clear hok hn hn2
  go_enter Tryz.func70, Tryz.ntmps70
  go_wp2_with (first | (go_at_call 68; refine (hnum.out _).mono ?_; rintro e w1 ⟨v1, rfl, o1, k1⟩; obtain ⟨a1, n1, c1, rfl⟩ := o1.rd.sl))
  go_ret2
  exact ⟨rfl, k1⟩
set_option maxHeartbeats 1000000 in
theorem label_any (vk : Value) (s : ByteArray) (vc : Value) (k ctx : List UInt8) (n : Int) (w : World) (hk : Rd w vk k) (hc : Rd w vc ctx) (hs : s.size ≤ 300) (hcl : ctx.length ≤ 1400) (hkl : k.length ≤ 2000) (hn2 : -9223372036854775808 ≤ n ∧ n ≤ 9223372036854775807) :
    Calls Tryz.prog 63 #[vk, .string s, vc, .int .i64 n] w fun e w' => (∃ v, e = .returned (.tuple #[v, .int .i64 (expE n)]) ∧ Ow 5 w' w.heap.size v (labR k s.data.toList ctx n)) ∧ Kp w w' := by
  have hsl : s.data.toList.length = s.size := rfl
  by_cases h1 : n < 0 ∨ 65535 < n
  · have hno := exp_no k (labI s.data.toList ctx n.toNat) (n := n) (by omega)
    have HL := Lib.hid (labelled_no s vc ctx n w hc h1 hn2)
    unfold labR
    rw [hno.1, hno.2]
    clear h1 hn2
    go_enter Tryz.func63, Tryz.ntmps63
    go_wp2_with (first | (go_at_call 70; refine HL.out.mono ?_; rintro e w1 ⟨rfl, k1⟩))
    go_ret2
    exact ⟨⟨_, rfl, Ow.nil _ _ _⟩, k1⟩
  · obtain ⟨n, rfl⟩ := Int.eq_ofNat_of_zero_le (show 0 ≤ n by omega)
    have HL := Lib.hid (labelled_yes s vc ctx n w hc hs hcl (by omega))
    have hll := labI_length s.data.toList ctx n (by omega) hcl
    have HR : Hid (labR k s.data.toList ctx n = expR k (labI s.data.toList ctx n) n) := rfl
    rw [HR.out]
    generalize labI s.data.toList ctx n = I at *
    have HX := Lib.hid (fun W v5 (hk' : Rd W vk k) (h5 : Rd W v5 I) => expand_any vk v5 k I n W hk' h5 hkl hll)
    clear h1 hn2
    go_enter Tryz.func63, Tryz.ntmps63
    go_wp2_with (first | (go_at_call 70; refine HL.out.mono ?_; rintro e w1 ⟨⟨v1, rfl, o1⟩, k1⟩; obtain ⟨a1, n1, c1, rfl⟩ := o1.rd.sl) | (go_at_call 71; refine (HX.out _ _ (hk.kp k1) o1.rd).mono ?_; rintro e w2 ⟨⟨v2, rfl, o2⟩, k2⟩; obtain ⟨a2, n2, c2, rfl⟩ := o2.rd.sl))
    go_ret2
    exact ⟨⟨_, rfl, o2.mono k1.size⟩, k1.trans k2⟩
set_option maxHeartbeats 1000000 in
theorem derive_any (vk : Value) (s : ByteArray) (k : List UInt8) (w : World) (hk : Rd w vk k) (hs : s.size ≤ 300) (hkl : k.length ≤ 2000) :
    Calls Tryz.prog 51 #[vk, .string s] w fun e w' => (∃ v, e = .returned (.tuple #[v, .int .i64 0]) ∧ Ow 5 w' w.heap.size v (expL k (labI s.data.toList [] 32) 32)) ∧ Kp w w' := by
  have HL := Lib.hid (label_any vk s (.slice none 0 0) k [] 32 w hk (rd_nil w) hs (by simp) hkl (by omega))
  have e1 : expE 32 = 0 := rfl
  have e2 : labR k s.data.toList [] 32 = expL k (labI s.data.toList [] 32) 32 := rfl
  rw [e1, e2] at HL
  go_enter Tryz.func51, Tryz.ntmps51
  go_wp2_with (first | (go_at_call 63; refine HL.out.mono ?_; rintro e w1 ⟨⟨v1, rfl, o1⟩, k1⟩; obtain ⟨a1, n1, c1, rfl⟩ := o1.rd.sl))
  go_ret2
  exact ⟨⟨_, rfl, o1⟩, k1⟩
structure Lk where
  pos : Int
  key : List UInt8
  non : List UInt8
deriving DecidableEq
structure Ch where
  next : Int
  sec : List UInt8
  spare : List Lk
deriving DecidableEq
def treeS : ByteArray := ⟨#[116, 114, 101, 101]⟩
def leftS : ByteArray := ⟨#[108, 101, 102, 116]⟩
def rightS13 : ByteArray := ⟨#[114, 105, 103, 104, 116]⟩
def nextS : ByteArray := ⟨#[110, 101, 120, 116]⟩
def keyS : ByteArray := ⟨#[107, 101, 121]⟩
def nonceS : ByteArray := ⟨#[110, 111, 110, 99, 101]⟩
def partB (k : List UInt8) (s : ByteArray) (c : List UInt8) (n : Nat) : List UInt8 := expL k (labI s.data.toList c n) n
theorem partB_length (k : List UInt8) (s : ByteArray) (c : List UInt8) (n : Nat) : (partB k s c n).length = n := firstB_length _ (expT_length _ _) n
theorem partB_lab (k : List UInt8) (s : ByteArray) (c : List UInt8) (n : Nat) (h : (n : Int) ≤ 8160) : expE n = 0 ∧ labR k s.data.toList c n = partB k s c n := by
  have := exp_yes k (labI s.data.toList c n) (n := n) h
  exact this
def secD (send : List UInt8) : Nat → Nat → List UInt8
  | 0, _ => partB send treeS [] 32
  | d + 1, p => partB (secD send d (p / 2)) (if p % 2 = 1 then rightS13 else leftS) [] 32
theorem secD_length (send : List UInt8) : ∀ d p, (secD send d p).length = 32
  | 0, _ => partB_length _ _ _ _
  | _ + 1, _ => partB_length _ _ _ _
def nxtB (s : List UInt8) (a : Nat) : List UInt8 := partB s nextS (be 4 a) 32
def lockB (s : List UInt8) (a : Nat) : Lk := ⟨a, partB s keyS (be 4 a) 32, partB s nonceS (be 4 a) 12⟩
def onB (s : List UInt8) (a : Nat) : Nat → List UInt8
  | 0 => s
  | k + 1 => nxtB (onB s a k) (a + k)
theorem nxtB_length (s : List UInt8) (a : Nat) : (nxtB s a).length = 32 := partB_length _ _ _ _
theorem onB_length (s : List UInt8) (a : Nat) (h : s.length = 32) : ∀ k, (onB s a k).length = 32
  | 0 => h
  | _ + 1 => nxtB_length _ _
theorem onB_add (s : List UInt8) (a j : Nat) : ∀ k, onB s a (j + k) = onB (onB s a j) (a + j) k
  | 0 => rfl
  | k + 1 => by rw [show j + (k + 1) = (j + k) + 1 by omega, onB, onB_add s a j k, onB, Nat.add_assoc]
def passB (s : List UInt8) (a : Nat) : Nat → List Lk
  | 0 => []
  | k + 1 => passB s a k ++ [lockB (onB s a k) (a + k)]
theorem passB_length (s : List UInt8) (a : Nat) : ∀ k, (passB s a k).length = k
  | 0 => rfl
  | k + 1 => by rw [passB, List.length_append, passB_length s a k]; rfl
theorem passB_get (s : List UInt8) (a : Nat) : ∀ k i, i < k → (passB s a k)[i]? = some (lockB (onB s a i) (a + i))
  | 0, i, h => by omega
  | k + 1, i, h => by
    rw [passB]
    by_cases hi : i < k
    · rw [List.getElem?_append_left (by rw [passB_length]; exact hi)]
      exact passB_get s a k i hi
    · have : i = k := by omega
      subst this
      rw [List.getElem?_append_right (by rw [passB_length]; omega), passB_length, Nat.sub_self]
      rfl
def lastL (l : List Lk) : List Lk := l.drop (l.length - 32)
theorem lastL_length (l : List Lk) : (lastL l).length = min l.length 32 := by unfold lastL; rw [List.length_drop]; omega
def noLk : Lk := ⟨0, [], []⟩
def lkAt (l : List Lk) (i : Nat) : Lk := l.getD i noLk
theorem lkAt_of {l : List Lk} {i : Nat} (h : i < l.length) : l[i]? = some (lkAt l i) := by
  unfold lkAt
  rw [List.getD_eq_getElem?_getD, List.getElem?_eq_getElem h]
  rfl
def spAt (l : List Lk) (a : Int) : Nat := l.findIdx fun k => decide (k.pos = a)
theorem spAt_le (l : List Lk) (a : Int) : spAt l a ≤ l.length := List.findIdx_le_length
theorem spAt_is {l : List Lk} {a : Int} (h : spAt l a < l.length) : (lkAt l (spAt l a)).pos = a := by
  have h1 := List.findIdx_getElem (xs := l) (p := fun k : Lk => decide (k.pos = a)) (w := h)
  have h2 := lkAt_of h
  rw [List.getElem?_eq_getElem h] at h2
  simp only [Option.some.injEq] at h2
  rw [← h2]
  exact of_decide_eq_true h1
theorem spAt_not {l : List Lk} {a : Int} {i : Nat} (h : i < spAt l a) : (lkAt l i).pos ≠ a := by
  have hl : i < l.length := Nat.lt_of_lt_of_le h (spAt_le l a)
  have h1 := List.not_of_lt_findIdx (xs := l) (p := fun k : Lk => decide (k.pos = a)) h
  have h2 := lkAt_of hl
  rw [List.getElem?_eq_getElem hl] at h2
  simp only [Option.some.injEq] at h2
  rw [← h2]
  simpa using h1
theorem spAt_eq {l : List Lk} {a : Int} {i : Nat} (hi : i < l.length) (h : (lkAt l i).pos = a) (hn : ∀ j, j < i → (lkAt l j).pos ≠ a) : spAt l a = i := by
  rcases Nat.lt_trichotomy (spAt l a) i with h1 | h1 | h1
  · exact absurd (spAt_is (by omega)) (hn _ h1)
  · exact h1
  · exact absurd h (spAt_not h1)
theorem spAt_none {l : List Lk} {a : Int} (h : ∀ j, j < l.length → (lkAt l j).pos ≠ a) : spAt l a = l.length := by
  rcases Nat.lt_or_ge (spAt l a) l.length with h1 | h1
  · exact absurd (spAt_is h1) (h _ h1)
  · have := spAt_le l a; omega
def takE (c : Ch) (a : Int) : Int :=
  if a < 0 ∨ 4294967294 < a then 1 else if spAt c.spare a < c.spare.length then 0 else if a < c.next then 9 else if 100 < a - c.next ∨ 4294967294 < a + 1 then 4 else 0
def takC (c : Ch) (a : Int) : Ch :=
  if takE c a ≠ 0 then c else if spAt c.spare a < c.spare.length then ⟨c.next, c.sec, c.spare.eraseIdx (spAt c.spare a)⟩
  else ⟨a + 1, onB c.sec c.next.toNat ((a - c.next).toNat + 1), lastL (c.spare ++ passB c.sec c.next.toNat (a - c.next).toNat)⟩
def takL (c : Ch) (a : Int) : Lk :=
  if takE c a ≠ 0 then noLk else if spAt c.spare a < c.spare.length then lkAt c.spare (spAt c.spare a)
  else lockB (onB c.sec c.next.toNat (a - c.next).toNat) a.toNat
def Lk.ok (k : Lk) (n : Int) : Prop := 0 ≤ k.pos ∧ k.pos < n ∧ k.key.length = 32 ∧ k.non.length = 12
instance (k : Lk) (n : Int) : Decidable (k.ok n) := by unfold Lk.ok; infer_instance
structure Ch.ok (c : Ch) : Prop where
  mk ::
  lo : 0 ≤ c.next
  hi : c.next ≤ 4294967294
  sec : c.sec.length = 32
  few : c.spare.length ≤ 32
  each : ∀ i, i < c.spare.length → (lkAt c.spare i).ok c.next
  rise : ∀ i, i + 1 < c.spare.length → (lkAt c.spare i).pos < (lkAt c.spare (i + 1)).pos
theorem Ch.ok.up {c : Ch} (h : c.ok) : ∀ d i, i + d < c.spare.length → 0 < d → (lkAt c.spare i).pos < (lkAt c.spare (i + d)).pos
  | 0, i, h1, h2 => by omega
  | 1, i, h1, _ => h.rise i h1
  | d + 2, i, h1, _ => by
    have h3 := h.up (d + 1) i (by omega) (by omega)
    have h4 := h.rise (i + (d + 1)) (by omega)
    rw [show i + (d + 2) = i + (d + 1) + 1 by omega]
    omega
theorem Ch.ok.lt {c : Ch} (h : c.ok) {i j : Nat} (hij : i < j) (hj : j < c.spare.length) : (lkAt c.spare i).pos < (lkAt c.spare j).pos := by
  have := h.up (j - i) i (by omega) (by omega)
  rwa [show i + (j - i) = j by omega] at this
theorem Ch.ok.inj {c : Ch} (h : c.ok) {i j : Nat} (hi : i < c.spare.length) (hj : j < c.spare.length) (e : (lkAt c.spare i).pos = (lkAt c.spare j).pos) : i = j := by
  rcases Nat.lt_trichotomy i j with h1 | h1 | h1
  · have := h.lt h1 hj; omega
  · exact h1
  · have := h.lt h1 hi; omega
theorem lkAt_erase (l : List Lk) (k i : Nat) : lkAt (l.eraseIdx k) i = lkAt l (if i < k then i else i + 1) := by
  unfold lkAt
  rw [List.getD_eq_getElem?_getD, List.getD_eq_getElem?_getD, List.getElem?_eraseIdx]
  split <;> rfl
theorem erase_length {l : List Lk} {k : Nat} (h : k < l.length) : (l.eraseIdx k).length = l.length - 1 := List.length_eraseIdx_of_lt h
theorem Ch.ok.erase {c : Ch} (h : c.ok) {k : Nat} (hk : k < c.spare.length) : (⟨c.next, c.sec, c.spare.eraseIdx k⟩ : Ch).ok := by
  refine ⟨h.lo, h.hi, h.sec, ?_, fun i hi => ?_, fun i hi => ?_⟩
  · show (c.spare.eraseIdx k).length ≤ 32
    rw [erase_length hk]; have := h.few; omega
  · have hi' : i < (c.spare.eraseIdx k).length := hi
    rw [erase_length hk] at hi'
    show (lkAt (c.spare.eraseIdx k) i).ok c.next
    rw [lkAt_erase]
    split
    · exact h.each _ (by omega)
    · exact h.each _ (by omega)
  · have hi' : i + 1 < (c.spare.eraseIdx k).length := hi
    rw [erase_length hk] at hi'
    show (lkAt (c.spare.eraseIdx k) i).pos < (lkAt (c.spare.eraseIdx k) (i + 1)).pos
    rw [lkAt_erase, lkAt_erase]
    refine h.lt ?_ ?_
    · split <;> split <;> omega
    · split <;> omega
theorem lkAt_last (l : List Lk) (i : Nat) : lkAt (lastL l) i = lkAt l (l.length - 32 + i) := by
  unfold lkAt lastL
  rw [List.getD_eq_getElem?_getD, List.getD_eq_getElem?_getD, List.getElem?_drop]
theorem lkAt_left {l m : List Lk} {i : Nat} (h : i < l.length) : lkAt (l ++ m) i = lkAt l i := by
  unfold lkAt
  rw [List.getD_eq_getElem?_getD, List.getD_eq_getElem?_getD, List.getElem?_append_left h]
theorem lkAt_pass (l : List Lk) (s : List UInt8) (a k i : Nat) (h : i < k) : lkAt (l ++ passB s a k) (l.length + i) = lockB (onB s a i) (a + i) := by
  unfold lkAt
  rw [List.getD_eq_getElem?_getD, List.getElem?_append_right (by omega), Nat.add_sub_cancel_left, passB_get s a k i h]
  rfl
theorem lockB_ok (s : List UInt8) (a : Nat) (n : Int) (h : (a : Int) < n) : (lockB s a).ok n := ⟨Int.natCast_nonneg _, h, partB_length _ _ _ _, partB_length _ _ _ _⟩
theorem lkAt_both (l : List Lk) (s : List UInt8) (a k j : Nat) (h : j < l.length + k) : lkAt (l ++ passB s a k) j = if j < l.length then lkAt l j else lockB (onB s a (j - l.length)) (a + (j - l.length)) := by
  split
  · next h1 => exact lkAt_left h1
  · next h1 =>
    have := lkAt_pass l s a k (j - l.length) (by omega)
    rwa [show l.length + (j - l.length) = j by omega] at this
theorem Ch.ok.step {c : Ch} (h : c.ok) (k : Nat) (hk : c.next + k + 1 ≤ 4294967294) : (⟨c.next + k + 1, onB c.sec c.next.toNat (k + 1), lastL (c.spare ++ passB c.sec c.next.toNat k)⟩ : Ch).ok := by
  have hlo := h.lo
  obtain ⟨N, hN⟩ : ∃ N : Nat, (N : Int) = c.next := ⟨c.next.toNat, Int.toNat_of_nonneg hlo⟩
  have hN2 : c.next.toNat = N := by omega
  have hl : (c.spare ++ passB c.sec c.next.toNat k).length = c.spare.length + k := by rw [List.length_append, passB_length]
  have hLL : (lastL (c.spare ++ passB c.sec c.next.toNat k)).length = min (c.spare.length + k) 32 := by rw [lastL_length, hl]
  have hat : ∀ i, i < min (c.spare.length + k) 32 → lkAt (lastL (c.spare ++ passB c.sec c.next.toNat k)) i = (fun j => if j < c.spare.length then lkAt c.spare j else lockB (onB c.sec N (j - c.spare.length)) (N + (j - c.spare.length))) (c.spare.length + k - 32 + i) := by
    intro i hi
    rw [lkAt_last, hl, lkAt_both _ _ _ _ _ (by omega), hN2]
  have hpos : ∀ s j, (lockB s j).pos = (j : Int) := fun _ _ => rfl
  refine ⟨by show (0 : Int) ≤ c.next + k + 1; omega, by show c.next + k + 1 ≤ 4294967294; omega, onB_length _ _ h.sec _, ?_, fun i hi => ?_, fun i hi => ?_⟩
  · show (lastL (c.spare ++ passB c.sec c.next.toNat k)).length ≤ 32
    rw [hLL]; omega
  · have hi' : i < (lastL (c.spare ++ passB c.sec c.next.toNat k)).length := hi
    rw [hLL] at hi'
    show (lkAt (lastL (c.spare ++ passB c.sec c.next.toNat k)) i).ok (c.next + k + 1)
    rw [hat i hi']
    show (if _ then _ else _ : Lk).ok _
    split
    · next h1 =>
      obtain ⟨a1, a2, a3, a4⟩ := h.each _ h1
      exact ⟨a1, by omega, a3, a4⟩
    · exact lockB_ok _ _ _ (by omega)
  · have hi' : i + 1 < (lastL (c.spare ++ passB c.sec c.next.toNat k)).length := hi
    rw [hLL] at hi'
    show (lkAt (lastL (c.spare ++ passB c.sec c.next.toNat k)) i).pos < (lkAt (lastL (c.spare ++ passB c.sec c.next.toNat k)) (i + 1)).pos
    rw [hat i (by omega), hat (i + 1) hi']
    show (if _ then _ else _ : Lk).pos < (if _ then _ else _ : Lk).pos
    split
    · next h1 =>
      split
      · next h2 => exact h.lt (by omega) h2
      · next h2 =>
        have h3 := (h.each _ h1).2.1
        rw [hpos]
        omega
    · next h1 =>
      rw [if_neg (by omega), hpos, hpos]
      omega
theorem takE_zero {c : Ch} {a : Int} (h : takE c a = 0) : (0 ≤ a ∧ a ≤ 4294967294) ∧ (spAt c.spare a < c.spare.length ∨ (¬ spAt c.spare a < c.spare.length ∧ c.next ≤ a ∧ a - c.next ≤ 100 ∧ a + 1 ≤ 4294967294)) := by
  unfold takE at h
  split at h
  · cases h
  split at h
  · exact ⟨by omega, .inl (by assumption)⟩
  split at h
  · cases h
  split at h
  · cases h
  exact ⟨by omega, .inr ⟨by assumption, by omega, by omega, by omega⟩⟩
theorem takC_ok {c : Ch} (h : c.ok) (a : Int) : (takC c a).ok := by
  unfold takC
  split
  · exact h
  · next h1 =>
    have h2 := takE_zero (Classical.not_not.1 h1)
    split
    · next h3 => exact h.erase h3
    · next h3 =>
      rcases h2.2 with h4 | ⟨_, h4, h5, h6⟩
      · exact absurd h4 h3
      · have := h.step (a - c.next).toNat (by omega)
        rw [show c.next + ((a - c.next).toNat : Int) + 1 = a + 1 by omega] at this
        exact this
end Go.Proofs.YtigpgcjbpoaclaaGreatDoor
