/- byt.Bytes. -/
import Derived.Test.YtpaopnjknpoacaaStr2
import Derived.Lib.OthersKept
namespace Go.Proofs.Ytpaopnjknpoacaa
open Go.RowKit

theorem Ow.iterAt {e : TypeId} {w : World} {B : Nat} {v : Value} {l : List UInt8} (h : Ow e w B v l) {k : Nat} {s : ByteArray} {pos : Nat} (hk : w.heap[k]? = some (.stringIter s pos)) (pos' : Nat) : Ow e (w.iterAt k s pos') B v l := by
  refine ⟨h.1, ?_⟩
  rcases h.2 with hn | ⟨g, cap, cur, rfl, hb, hg, rest⟩
  · exact .inl hn
  · refine .inr ⟨g, cap, cur, rfl, hb, ?_, rest⟩
    rw [Lib.iterAt_other w k g s pos' (fun e => by subst e; rw [hg] at hk; simp at hk)]
    exact hg

/-- The iterator's block is no row's. -/
theorem Ow.iter_ne {e : TypeId} {w : World} {B : Nat} {v : Value} {l : List UInt8} (h : Ow e w B v l) {k : Nat} {s : ByteArray} {pos : Nat} (hk : w.heap[k]? = some (.stringIter s pos)) : some k ≠ v.ownBlock := by
  rcases h.2 with ⟨rfl, _⟩ | ⟨g, cap, cur, rfl, hb, hg, rest⟩
  · simp [Value.ownBlock]
  · intro e
    simp only [Value.ownBlock, Option.some.injEq] at e
    subst e
    rw [hg] at hk
    simp at hk

def BY (s : ByteArray) (w : World) (e : Ending) (w' : World) : Prop :=
  ∃ v, e = .returned (.tuple #[v, .int .i64 (byE s.data.toList)]) ∧ Ow 5 w' w.heap.size v (byB s.data.toList) ∧ Kp w w'

theorem by_no {s : List UInt8} (h : ¬ (s.length % 2 = 0 ∧ s.all isFig = true)) : byE s = 2 ∧ byB s = [] := by
  have e : byE s = 2 := if_neg h
  simp [byB, e]
theorem by_yes {s : List UInt8} (h : s.length % 2 = 0 ∧ s.all isFig = true) : byE s = 0 ∧ byB s = pairs s := by
  have e : byE s = 0 := if_pos h
  simp [byB, e]

theorem getD_bytes (s : ByteArray) (k : Nat) (h : k < s.size) : s.data.toList.getD k 0 = s[k] := by
  rw [List.getD_eq_getElem?_getD, List.getElem?_eq_getElem (by simpa using h)]
  rfl
theorem all_take (l : List UInt8) (k : Nat) (h : k < l.length) : (l.take (k + 1)).all isFig = ((l.take k).all isFig && isFig (l.getD k 0)) := by
  rw [snoc_take l k h, List.all_append]; simp
theorem not_all {l : List UInt8} {k : Nat} (hk : k < l.length) (h : isFig (l.getD k 0) = false) : ¬ (l.length % 2 = 0 ∧ l.all isFig = true) := by
  intro ⟨_, h2⟩
  have h3 := List.all_eq_true.1 h2 (l.getD k 0) (by rw [List.getD_eq_getElem?_getD, List.getElem?_eq_getElem hk]; exact List.getElem_mem hk)
  rw [h] at h3
  cases h3

theorem pairs_two (l : List UInt8) (k : Nat) (h : k + 1 < l.length) (hk : k % 2 = 0) : pairs (l.take (k + 2)) = pairs (l.take k) ++ [UInt8.ofNat (16 * hv (l.getD k 0) + hv (l.getD (k + 1) 0))] := by
  rw [snoc_take l (k + 1) h, snoc_take l k (by omega), List.append_assoc]
  exact pairs_snoc _ _ _ (by simp; omega)

theorem u8_or_half (x y : Int) (hx₀ : 0 ≤ x) (hx : x % 16 = 0) (hx₁ : x < 256) (h₀ : 0 ≤ y) (h₁ : y < 16) : bits .or .u8 x y = x + y :=
  bits_join .u8 8 (by decide) wraps_u8 4 x y hx₀ (by omega) (by omega) h₀ (by omega) (by omega)

set_option maxRecDepth 100000 in
set_option maxHeartbeats 1600000 in
theorem bytes_any (s : ByteArray) (w : World) (hs : s.size ≤ 1000000) :
    Calls Try.prog 27 #[.string s] w (BY s w) := by
  have U := u8
  obtain ⟨i0, hi, hz0, hz1, hz2⟩ := info_parts Try.info5
  have hsz : s.data.toList.length = s.size := by rw [Array.length_toList]; rfl
  by_cases h1 : s.size % 2 = 0
  · have d1 : ((s.size : Int) % 2 == 0) = true := by simp; omega
    have d2 : ((s.size : Int) % 2 != 0) = false := by simp; omega
    have H1 := Lib.hid h1
    clear h1
    generalize hB : w.heap.size = B at *
    have HB := Lib.hid hB
    clear hB
    go_enter Try.func27, Try.ntmps27
    go_wp2_with (at_make; refine wpList_make_own _ rfl _ _ 22 rfl B 5 i0 (.int .u8 0) 1 Try.underlying22 hi hz0 hz1 _ _ _ (s.size / 2) rfl rfl (by omega) ?b1 ?b2 ?b3 ?_)
    case b1 => rw [hz2]; omega
    case b2 => unfold maxLen; omega
    case b3 => rw [← HB.out]; exact Nat.le_refl _
    intro w1 hown hgr
    have hk1 : Below B w w1 := Below.grown (Below.refl B w) hgr (by rw [HB.out]; exact Nat.le_refl _) (by simp)
    have hbs : B < w1.heap.size := by
      rcases hown.2 with ⟨h, _⟩ | ⟨g, cap, cur, h, hg, hh, _⟩
      · cases h
      · exact Nat.lt_of_le_of_lt hg (Array.getElem?_eq_some_iff.1 hh).1
    clear hgr
    generalize hL : s.data.toList = L at *
    have HL := Lib.hid hL
    have HSZ := Lib.hid hsz
    clear hL hsz
    go_wp2
    have hit0 : (w1.iter s 0).heap[w1.heap.size]? = some (.stringIter s 0) := World.iter_heap w1 s 0
    have hk2 : Below B w (w1.iter s 0) := hk1.trans ((Below.refl B w1).alloc (by omega) _)
    have hown2 : Ow 5 (w1.iter s 0) B (.slice (some ⟨w.heap.size, 0, none⟩) 0 (s.size / 2)) [] := Ow.kp (w := w1) hown ((Kp.refl w1).alloc _)
    clear hown hk1
    generalize hK : w1.heap.size = K at *
    clear hK
    go_loopw [4, 5] (fun v h wr => ∃ pos hi : Nat, pos ≤ s.size ∧ Ow 5 wr B v (pairs (L.take (pos - pos % 2))) ∧ h = .int .u8 hi ∧ hi % 16 = 0 ∧ hi < 256 ∧ (pos % 2 = 1 → hi = 16 * hv (L.getD (pos - 1) 0)) ∧ (L.take pos).all isFig = true ∧ wr.heap[K]? = some (.stringIter s pos) ∧ Below B w wr) (fun _ _ wr => s.size - wr.iterPos K)
    case atStart => exact ⟨0, 0, Nat.zero_le _, hown2, rfl, rfl, by omega, fun h => by simp at h, rfl, hit0, hk2⟩
    case round =>
      obtain ⟨pos, high, hpos, hown, rfl, hh16, hh256, hhigh, hall, hit, hbel⟩ := hrel
      have HALL := Lib.hid hall
      have HIT := Lib.hid hit
      have HH := Lib.hid hhigh
      clear hall hhigh
      have hBw : B ≤ wr.heap.size := by have := hbel.size; rw [← HB.out]; exact this
      by_cases hp : pos < s.size
      · have hlt : pos < L.length := by rw [HSZ.out]; exact hp
        have hch : L.getD pos 0 = s[pos] := by rw [← HL.out]; exact getD_bytes s pos hp
        by_cases hf : isFig (L.getD pos 0) = true
        · have hfd := of_decide_eq_true hf
          rw [hch] at hfd
          have hnx : ∀ ty, (Instr.next (.pointer (some ⟨K, 0, none⟩)) true ty).run Try.prog wr = _ := fun ty => Lib.run_next_ascii_at wr K s pos ty hit hp (by omega)
          have hit2 := Lib.iterAt_heap wr K s pos (pos + 1) hit
          have hbel2 := Lib.below_iterAt hbel (show B ≤ K by omega) s (pos + 1)
          have hown2 := hown.iterAt hit (pos + 1)
          have hsz2 : wr.heap.size ≤ (wr.iterAt K s (pos + 1)).heap.size := by rw [Lib.iterAt_size]; exact Nat.le_refl _
          have HF := Lib.hid hf
          have HCH := Lib.hid hch
          have hnxH := Lib.hid hnx
          obtain ⟨y, hy⟩ : ∃ y : Nat, y = hv (L.getD pos 0) := ⟨_, rfl⟩
          have hy16 : y < 16 := by rw [hy]; exact hv_lt hf
          have HY := Lib.hid hy
          have hposi : (pos : Int) < s.size := by omega
          have hw : ∀ W, Calls Try.prog 41 #[.int .i32 ((s[pos]).toNat : Int)] W fun e w' => e = .returned (.tuple #[.int .u8 y, .bool true]) ∧ W = w' := fun W => by
            rw [hy]; exact worth_yes _ _ W (by rw [hch]) hf
          have HW := Lib.hid hw
          generalize hwx : wr.iterAt K s (pos + 1) = wx at *
          clear hf hch hfd hy hw hown hbel hit hwx
          by_cases hpar : pos % 2 = 0
          · have p1 : ((pos : Int) % 2 == 0) = true := by simp; omega
            go_wp2_with (go_at_call 41; refine (HW.out _).mono ?_; rintro e w' ⟨rfl, rfl⟩)
            go_roundw
            case rel => exact ⟨pos + 1, y * 16, by omega, by rw [show pos + 1 - (pos + 1) % 2 = pos - pos % 2 from by omega]; exact hown2, by go_num, by omega, by omega, fun _ => by rw [Nat.add_sub_cancel, ← HY.out]; omega, by rw [all_take L pos hlt, HALL.out, HF.out]; rfl, hit2, hbel2⟩
            case measure =>
              simp only [World.iterPos, hit2, HIT.out]
              omega
          · have p1 : ((pos : Int) % 2 == 0) = false := by simp; omega
            have hor : bits .or .u8 (high : Int) (y : Int) = high + y := u8_or_half _ _ (by omega) (by omega) (by omega) (by omega) (by omega)
            have hhd := HH.out (by omega)
            have hpl := pairs_length (L.take (pos - pos % 2))
            have hpl2 : (L.take (pos - pos % 2)).length ≤ 1000000 := by simp; omega
            have HHD := Lib.hid hhd
            obtain ⟨cb, hcb⟩ : ∃ cb, cb = UInt8.ofNat (high + y) := ⟨_, rfl⟩
            have HCB := Lib.hid hcb
            clear hhd hcb
            go_wp2_with (first
              | (go_at_call 41; refine (HW.out _).mono ?_; rintro e w' ⟨rfl, rfl⟩)
              | (at_builtin; refine wpList_append_ow U rfl _ _ rfl B _ _ rfl (hown2.kp ((Kp.refl _).alloc _)) _ [cb] rfl ?c1 ?c2 ?c3 ?_))
            case c1 =>
              refine Rd.box _ _ _ _ ?_
              rw [HCB.out]
              simp
              omega
            case c2 => simp only [List.length_cons, List.length_nil]; omega
            case c3 => simp; omega
            intro v' w2 hown' hgrow _
            have hb3 : Below B w w2 := Below.grown' (hbel2.alloc (by omega) _) hgrow (by simp; omega) (hown2.kp ((Kp.refl _).alloc _))
            have hKw : K < wx.heap.size := (Array.getElem?_eq_some_iff.1 hit2).1
            have hit3 : w2.heap[K]? = some (.stringIter s (pos + 1)) := by
              rw [hgrow.block K (by simp; omega) (hown2.iter_ne hit2), Below.heap_alloc _ _ _ hKw]
              exact hit2
            clear hgrow hnx
            go_wp2
            go_roundw
            case rel =>
              refine ⟨pos + 1, high, by omega, ?_, rfl, hh16, hh256, fun h => by omega, by rw [all_take L pos hlt, HALL.out, HF.out]; rfl, hit3, hb3⟩
              have h2 := pairs_two L (pos - 1) (by omega) (by omega)
              rw [show pos - 1 + 2 = pos + 1 from by omega, show pos - 1 + 1 = pos from by omega, ← HY.out, ← HHD.out] at h2
              rw [show pos + 1 - (pos + 1) % 2 = pos + 1 from by omega, h2]
              rw [show pos - pos % 2 = pos - 1 from by omega, HCB.out] at hown'
              exact hown'
            case measure =>
              simp only [World.iterPos, hit3, HIT.out]
              omega
        · have hf' : isFig (L.getD pos 0) = false := by simpa using hf
          have E := Lib.hid (by_no (not_all hlt hf'))
          obtain ⟨r, hr⟩ : ∃ r : Nat, r = (Utf8.decode s pos).1 := ⟨_, rfl⟩
          have hnf : ¬ (48 ≤ r ∧ r ≤ 57) ∧ ¬ (97 ≤ r ∧ r ≤ 102) := by
            have hfd := of_decide_eq_false hf'
            rw [hch] at hfd
            by_cases h128 : (s[pos]).toNat < 128
            · rw [hr, decode_ascii s pos hp h128]
              simp only
              omega
            · have := (decode_high s pos hp (by omega)).1
              omega
          have hnx : ∀ ty, (Instr.next (.pointer (some ⟨K, 0, none⟩)) true ty).run Try.prog wr = _ := fun ty => Lib.run_next_any_at wr K s pos ty hit hp
          have hbel2 := Lib.below_iterAt hbel (show B ≤ K by omega) s (pos + (Utf8.decode s pos).2)
          rw [← hr] at hnx
          have HW : Hid (∀ W, Calls Try.prog 41 #[.int .i32 (r : Int)] W fun e w' => e = .returned (.tuple #[.int .u8 0, .bool false]) ∧ W = w') := fun W => worth_no _ W (by omega) (by omega)
          generalize hwx : wr.iterAt K s (pos + (Utf8.decode s pos).2) = wx at *
          clear hf hf' hch hr hown hbel hit hwx hnf
          go_wp2_with (go_at_call 41; refine (HW.out _).mono ?_; rintro e w' ⟨rfl, rfl⟩)
          go_ret2
          obtain ⟨e1, e2⟩ := E.out
          rw [BY, HL.out, e1, e2]
          exact ⟨_, rfl, Ow.nil _ _ _, by unfold Kp; rw [HB.out]; exact hbel2⟩
      · have hpe : pos = s.size := by omega
        have hnx : ∀ ty, (Instr.next (.pointer (some ⟨K, 0, none⟩)) true ty).run Try.prog wr = _ := fun ty => Lib.run_next_end_at wr K s pos ty hit hp
        have hlen : L.take pos = L := List.take_of_length_le (by rw [HSZ.out]; omega)
        have E := Lib.hid (by_yes (s := L) ⟨by rw [HSZ.out]; exact H1.out, by rw [← hlen]; exact HALL.out⟩)
        have h0 : pos % 2 = 0 := by rw [hpe]; exact H1.out
        rw [h0, Nat.sub_zero, hlen] at hown
        clear hlen h0 hpe
        go_wp2_with fail
        go_ret2
        obtain ⟨e1, e2⟩ := E.out
        rw [BY, HL.out, e1, e2]
        exact ⟨_, rfl, by rw [HB.out]; exact hown, by unfold Kp; rw [HB.out]; exact hbel⟩
  · obtain ⟨e1, e2⟩ := by_no (s := s.data.toList) (by rw [hsz]; omega)
    have E1 := Lib.hid e1
    have E2 := Lib.hid e2
    clear e1 e2
    have d2 : ((s.size : Int) % 2 != 0) = true := by simp; omega
    go_enter Try.func27, Try.ntmps27
    go_wp2_with fail
    go_ret2
    exact ⟨_, by rw [E1.out]; rfl, by rw [E2.out]; exact Ow.nil _ _ _, Kp.refl _⟩
end Go.Proofs.Ytpaopnjknpoacaa
