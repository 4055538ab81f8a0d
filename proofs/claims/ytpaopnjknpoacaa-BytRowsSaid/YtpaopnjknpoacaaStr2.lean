/- Texts: the document's own Text. -/
import Derived.Test.YtpaopnjknpoacaaStr
namespace Go.Proofs.Ytpaopnjknpoacaa
open Go.RowKit

theorem fig_cut : ∀ n : Fin 16, (⟨#[48, 49, 50, 51, 52, 53, 54, 55, 56, 57, 97, 98, 99, 100, 101, 102]⟩ : ByteArray).extract n.val (n.val + 1) = ⟨#[hexB n.val]⟩ := by decide

theorem figure_any (n : Nat) (w : World) (h : n < 16) :
    Calls Try.prog 45 #[.int .i64 n] w fun e w' => e = .returned (.string ⟨#[hexB n]⟩) ∧ w = w' := by
  have hf := fig_cut ⟨n, h⟩
  have hn : (n : Int) < 16 := by omega
  go_enter Try.func45, Try.ntmps45
  go_wp2
  go_ret
  exact ⟨by rw [← hf]; rfl, rfl⟩

theorem figure_int (x : Int) (w : World) (h0 : 0 ≤ x) (h : x < 16) :
    Calls Try.prog 45 #[.int .i64 x] w fun e w' => e = .returned (.string ⟨#[hexB x.toNat]⟩) ∧ w = w' := by
  obtain ⟨n, rfl⟩ := Int.eq_ofNat_of_zero_le h0
  exact figure_any n w (by omega)

set_option maxRecDepth 100000 in
set_option maxHeartbeats 800000 in
theorem refText_any (v : Value) (l : List UInt8) (w : World) (h : Rd w v l) (hl : l.length ≤ 1000000) :
    Calls Try.prog 32 #[v] w fun e w' => e = .returned (.string ⟨(textB l).toArray⟩) ∧ Kp w w' := by
  obtain ⟨a, c, rfl, hc, hm⟩ := h.shape
  unfold maxLen at hm
  go_enter Try.func32, Try.ntmps32
  go_wp2_with fail
  go_loopw [3, 4] (fun s i wr => ∃ k : Nat, k ≤ l.length ∧ i = .int .i64 k ∧ s = .string ⟨(textB (l.take k)).toArray⟩ ∧ Kp w wr) (fun _ i _ => l.length - (intOf i).toNat)
  case atStart => exact ⟨0, Nat.zero_le _, rfl, rfl, Kp.refl _⟩
  case round =>
    obtain ⟨k, hk, rfl, rfl, hkp⟩ := hrel
    by_cases hlt : k < l.length
    · obtain ⟨b, off, rfl, hbB, hcell⟩ := h.at k hlt
      have hc0 := hkp.cell (hcell k hlt)
      obtain ⟨y, hy⟩ : ∃ y : Nat, y = (l.getD k 0).toNat := ⟨_, rfl⟩
      have hy2 : (y : Int) < 256 := by have := (l.getD k 0).toNat_lt; omega
      rw [← hy] at hc0
      have h16 : y / 16 < 16 := by omega
      have hm16 : y % 16 < 16 := by omega
      obtain ⟨t, ht⟩ : ∃ t : ByteArray, t = ⟨(textB (l.take k)).toArray⟩ := ⟨_, rfl⟩
      have hts : (⟨(textB (l.take (k + 1))).toArray⟩ : ByteArray) = t ++ ⟨#[hexB (y / 16)]⟩ ++ ⟨#[hexB (y % 16)]⟩ := by
        rw [snoc_take l k hlt, textB_snoc, ← hy, ht]
        apply ByteArray.ext
        simp [ByteArray.append_eq, ByteArray.data_append]
      have hlen1 : (t.size : Int) ≤ 2000000 := by
        have : t.size = (textB (l.take k)).length := by rw [ht]; simp [ByteArray.size]
        rw [this, textB_length]; simp; omega
      rw [← ht]
      have HT := Lib.hid hts
      clear hcell hts hy ht
      go_wp2_with fail
      have q1 : (0 : Int) ≤ (y : Int) / 16 := by omega
      have q2 : (y : Int) / 16 < 16 := by omega
      have q3 : (0 : Int) ≤ (y : Int) % 16 := by omega
      have q4 : (y : Int) % 16 < 16 := by omega
      go_quiet ((go_at_call 45; exact quiet_left (figure_int _ _ (by assumption) (by assumption))))
      go_wp2_with fail
      go_roundw
      case rel => exact ⟨k + 1, by omega, by go_num, by rw [HT.out], hkp.drewN _⟩
      case measure => simp [intOf]; omega
    · have hkl : l.take k = l := List.take_of_length_le (by omega)
      rw [hkl]
      go_wp2_with fail
      go_ret
      exact ⟨rfl, hkp⟩

/-- What a figure is worth; whether a byte is a figure. -/
def hv (c : UInt8) : Nat := if c.toNat ≤ 57 then c.toNat - 48 else c.toNat - 87
def isFig (c : UInt8) : Bool := decide (48 ≤ c.toNat ∧ c.toNat ≤ 57 ∨ 97 ≤ c.toNat ∧ c.toNat ≤ 102)
/-- The bytes that figures tell, two for each. -/
def pairs : List UInt8 → List UInt8
  | a :: b :: r => UInt8.ofNat (16 * hv a + hv b) :: pairs r
  | _ => []
def byE (s : List UInt8) : Int := if s.length % 2 = 0 ∧ s.all isFig = true then 0 else 2
def byB (s : List UInt8) : List UInt8 := if byE s = 0 then pairs s else []

theorem pairs_snoc : ∀ (x : List UInt8) (a b : UInt8), x.length % 2 = 0 → pairs (x ++ [a, b]) = pairs x ++ [UInt8.ofNat (16 * hv a + hv b)]
  | [], a, b, _ => rfl
  | [_], a, b, h => by simp at h
  | x :: y :: r, a, b, h => by
    have h' : r.length % 2 = 0 := by simp at h; omega
    rw [List.cons_append, List.cons_append, pairs, pairs_snoc r a b h', pairs, List.cons_append]
theorem pairs_length : ∀ (x : List UInt8), (pairs x).length ≤ x.length
  | [] => by simp [pairs]
  | [_] => by simp [pairs]
  | _ :: _ :: r => by have := pairs_length r; simp [pairs]; omega
theorem hv_lt {c : UInt8} (h : isFig c = true) : hv c < 16 := by
  unfold isFig at h
  have := of_decide_eq_true h
  unfold hv
  split <;> omega

theorem worth_yes (x : Int) (c : UInt8) (w : World) (hx : x = c.toNat) (h : isFig c = true) :
    Calls Try.prog 41 #[.int .i32 x] w fun e w' => e = .returned (.tuple #[.int .u8 (hv c), .bool true]) ∧ w = w' := by
  have h' := of_decide_eq_true h
  have hl := hv_lt h
  have HX := Lib.hid hx
  rcases h' with ⟨h1, h2⟩ | ⟨h1, h2⟩
  · have e : (hv c : Int) = x - 48 := by unfold hv; rw [if_pos h2]; omega
    have e1 : (x - 48) % 256 = x - 48 := by omega
    have d1 : (48 : Int) ≤ x := by omega
    have d2 : x ≤ 57 := by omega
    have E := Lib.hid e
    clear e hx h1 h2 h hl
    go_enter Try.func41, Try.ntmps41
    go_wp2
    go_ret2
    exact ⟨by rw [E.out]; simp [e1], rfl⟩
  · have e : (hv c : Int) = x - 87 := by unfold hv; rw [if_neg (by omega)]; omega
    have e1 : (x - 87) % 256 = x - 87 := by omega
    have d1 : (97 : Int) ≤ x := by omega
    have d2 : x ≤ 102 := by omega
    have E := Lib.hid e
    clear e hx h1 h2 h hl
    go_enter Try.func41, Try.ntmps41
    go_wp2
    go_ret2
    rw [E.out, show x - 87 = x - 97 + 10 from by omega]
    exact ⟨rfl, rfl⟩
theorem worth_no (x : Int) (w : World) (h1 : ¬ (48 ≤ x ∧ x ≤ 57)) (h2 : ¬ (97 ≤ x ∧ x ≤ 102)) :
    Calls Try.prog 41 #[.int .i32 x] w fun e w' => e = .returned (.tuple #[.int .u8 0, .bool false]) ∧ w = w' := by
  by_cases a : 48 ≤ x
  · have a' : 57 < x := by omega
    by_cases b : 97 ≤ x
    · have b' : 102 < x := by omega
      clear h1 h2
      go_enter Try.func41, Try.ntmps41
      go_wp2
      go_ret2
      exact ⟨rfl, rfl⟩
    · clear h1 h2
      go_enter Try.func41, Try.ntmps41
      go_wp2
      go_ret2
      exact ⟨rfl, rfl⟩
  · clear h1 h2
    go_enter Try.func41, Try.ntmps41
    go_wp2
    go_ret2
    exact ⟨rfl, rfl⟩
end Go.Proofs.Ytpaopnjknpoacaa
