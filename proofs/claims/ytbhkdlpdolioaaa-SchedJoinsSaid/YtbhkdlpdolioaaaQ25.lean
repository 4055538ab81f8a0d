import Derived.Test.YtbhkdlpdolioaaaQ5
import Derived.Test.YtbhkdlpdolioaaaQ18
import Derived.Test.YtbhkdlpdolioaaaQ22
import Derived.Test.YtbhkdlpdolioaaaQ23
import Derived.Test.YtbhkdlpdolioaaaQ24
import Derived.Lib.ConvBytes
set_option linter.unusedVariables false
set_option linter.unusedSimpArgs false
namespace Go.Proofs.Ytbhkdlpdolioaaa
theorem drop_len {b l more : List UInt8} {p : Nat} (hd : b.drop p = l ++ more) (hl : l ≠ []) : p + l.length + more.length = b.length := by
 have h := congrArg List.length hd;rw [List.length_drop, List.length_append] at h;have : 0 < l.length := List.length_pos_iff.2 hl;omega
theorem drop_take {b l more : List UInt8} {p : Nat} (hd : b.drop p = l ++ more) : (b.drop p).take l.length = l := by
 rw [hd, List.take_append_of_le_length (Nat.le_refl _), List.take_length]
theorem acS {b more t : List UInt8} {c : UInt8} {p : Nat} (hd : b.drop p = (c :: t) ++ more) : b.getD p 0 = c := by
 have h := congrArg (fun l => l.getD 0 0) hd;simp only [List.cons_append, List.getD_cons_zero, List.getD_eq_getElem?_getD, List.getElem?_drop, Nat.add_zero] at h;rw [List.getD_eq_getElem?_getD];exact h
theorem abM (n : Nat) : (aad n).length = if n < 64 then 1 else if n < 16384 then 2 else 4 := by
 unfold aad;split
 ·exact aag _ _
 ·split <;> exact aag _ _
theorem abi (n : Nat) : 1 ≤ (aad n).length := by rw [abM]; split <;> (try split) <;> omega
theorem tl_at {b more : List UInt8} {p n : Nat} (hn : n ≤ 1073741823) (hd : b.drop p = aad n ++ more) :
  tlN b p = n ∧ tlP b p = p + (aad n).length ∧ tlE b p = 0 := by
 have hL := abM n;have hne : aad n ≠ [] := by intro h; have := abi n; rw [h] at this; simp at this
 have hlen := drop_len hd hne;have hp : p < b.length := by have := abi n; omega
 by_cases h1 : n < 64
 ·have e : aad n = be 1 n := by simp only [aad, if_pos h1]
  rw [if_pos h1] at hL;rw [e, abm] at hd;have hh := acS hd;have hc : (b.getD p 0).toNat = n := by rw [hh]; simp; omega
  obtain ⟨e1, e2, e3⟩ := agO hp (by omega);rw [e1, e2, e3, hL, hc];exact ⟨rfl, rfl, rfl⟩
 ·by_cases h2 : n < 16384
  ·have e : aad n = be 2 (n + 16384) := by simp only [aad, if_neg h1, if_pos h2]
   rw [if_neg h1, if_pos h2] at hL;have ht := drop_take hd;rw [hL, e] at ht;rw [e, abm] at hd;have hh := acS hd;have hc : (b.getD p 0).toNat = (n + 16384) / 256 := by rw [hh]; simp; omega
   have hv : val ((b.drop p).take 2) = n + 16384 := by rw [ht]; exact adL 2 _ (by omega)
   obtain ⟨e1, e2, e3⟩ := (agP hp (by omega) (by omega) (by omega)).2 (by omega);rw [e1, e2, e3, hL, hv];exact ⟨by omega, rfl, rfl⟩
  ·have e : aad n = be 4 (n + 2147483648) := by simp only [aad, if_neg h1, if_neg h2]
   rw [if_neg h1, if_neg h2] at hL;have ht := drop_take hd;rw [hL, e] at ht;rw [e, abm] at hd;have hh := acS hd;have hc : (b.getD p 0).toNat = (n + 2147483648) / 16777216 := by rw [hh]; simp; omega
   have hv : val ((b.drop p).take 4) = n + 2147483648 := by rw [ht]; exact adL 4 _ (by omega)
   obtain ⟨e1, e2, e3⟩ := (agv hp (by omega) (by omega) (by omega)).2 (by omega);rw [e1, e2, e3, hL, hv];exact ⟨by omega, rfl, rfl⟩
theorem abV {x : List UInt8} (h : x.length ≤ 1073741823) : rowE x = 0 ∧ rowB x = aad x.length ++ x := by
 have e : rowE x = 0 := if_neg (by omega);simp [rowB, e]
theorem adz {x : List UInt8} (h : x.length ≤ 1073741823) : (rowB x).length = (aad x.length).length + x.length := by rw [(abV h).2, List.length_append]
theorem agS {b x more : List UInt8} {p : Nat} {most : Int} (hx : x.length ≤ 1073741823) (hm : (x.length : Int) ≤ most) (hd : b.drop p = rowB x ++ more) :
  trB b p most = x ∧ trP b p most = p + (rowB x).length ∧ trE b p most = 0 := by
 have hr := adz hx;rw [(abV hx).2, List.append_assoc] at hd;obtain ⟨e1, e2, e3⟩ := tl_at hx hd;have hne : aad x.length ≠ [] := by intro h; have := abi x.length; rw [h] at this; simp at this
 have hlen := drop_len hd hne;rw [List.length_append] at hlen;obtain ⟨f1, f2, f3⟩ := agQ (l := b) (at' := p) (most := most) e3 (by omega) (by omega);rw [f1, f2, f3, e1, e2];refine ⟨?_, by omega, rfl⟩;rw [show ((p : Int) + (aad x.length).length).toNat = p + (aad x.length).length from by omega, Int.toNat_natCast, ← List.drop_drop, hd, List.drop_append_of_le_length (Nat.le_refl _), List.drop_length, List.nil_append,
  List.take_append_of_le_length (Nat.le_refl _), List.take_length]
theorem adi {x y : List UInt8} (hx : x.length ≤ 1073741823) (hy : y.length ≤ 1073741823) (h : ∃ t, rowB x = rowB y ++ t) : x = y := by
 obtain ⟨t, ht⟩ := h;have h1 := (agS (b := rowB x) (p := 0) (more := []) (most := 1073741823) hx (by omega) (by simp)).1;have h2 := (agS (b := rowB x) (p := 0) (more := t) (most := 1073741823) hy (by omega) (by simpa using ht)).1;rw [h1] at h2;exact h2
end Go.Proofs.Ytbhkdlpdolioaaa
namespace Go.Proofs.Ytbhkdlpdolioaaa
open Go.RowKit
def expE (n : Int) : Int := if 0 ≤ n ∧ n ≤ 8160 then 0 else 1
def expR (k info : List UInt8) (n : Int) : List UInt8 := if 0 ≤ n ∧ n ≤ 8160 then expL k info n.toNat else []
theorem adA {n : Nat} (k info : List UInt8) (h : (n : Int) ≤ 8160) : expE n = 0 ∧ expR k info n = expL k info n := by
 have : 0 ≤ (n : Int) ∧ (n : Int) ≤ 8160 := by omega
 simp [expE, expR, this]
theorem acb {n : Int} (k info : List UInt8) (h : n < 0 ∨ 8160 < n) : expE n = 1 ∧ expR k info n = [] := by
 have : ¬ (0 ≤ n ∧ n ≤ 8160) := by omega
 simp [expE, expR, this]
theorem acT (vs vk : Value) (s k : List UInt8) (w : World) (hs : Rd w vs s) (hk : Rd w vk k) (hsl : s.length ≤ 2000) (hkl : k.length ≤ 1900) :
  Calls Try.prog 47 #[vs, vk] w fun e w' => (∃ v, e = .returned v ∧ Ow 5 w' w.heap.size v (macB s k)) ∧ Kp w w' := by
 go_enter Try.func47, Try.ntmps47;go_wp2_with fail;refine (aft vs vk s k _ hs hk hsl hkl).mono ?_;rintro e w1 ⟨⟨a, c, rfl, o1⟩, k1⟩;go_wp2_with fail;go_ret;exact ⟨⟨_, rfl, o1⟩, k1⟩
theorem afu (n : Nat) (vk vi : Value) (k info : List UInt8) (w0 w : World) (b1 b2 gK : Nat) (hk : Kp w0 w) (h1 : One 22 w b1 (.slice (some ⟨gK, 0, none⟩) 64 64)) (h2 : One 22 w b2 vi) (h3 : By 5 w gK (keyB k)) (h4 : Rd w vi info)
  (hkl : k.length ≤ 2000) (hil : info.length ≤ 1800) (hn : n ≤ 8160) :
  Calls Try.prog 83 #[.int .i64 n, .func (.func 93) #[] #[.pointer (some ⟨b1, 0, none⟩), .pointer (some ⟨b2, 0, none⟩)]] w fun e w' => (∃ v, e = .returned v ∧ Ow 5 w' w.heap.size v (expL k info n)) ∧ Kp w w' :=
 afp n 255 (expT k info) _ _ (fun j => j < w.heap.size) w (aaK k info) (by omega) (by omega) (enters_of Try.func93 (by kernel_rfl) rfl) (fun _ h => h) (ac0 b1 b2 gK vi k info w h1 h2 h3 h4 hkl hil)
set_option maxHeartbeats 1000000 in
theorem aeZ (vk vi : Value) (k info : List UInt8) (n : Int) (w : World) (hk : Rd w vk k) (hi : Rd w vi info) (hkl : k.length ≤ 2000) (hil : info.length ≤ 1800) :
  Calls Try.prog 67 #[vk, vi, .int .i64 n] w fun e w' => (∃ v, e = .returned (.tuple #[v, .int .i64 (expE n)]) ∧ Ow 5 w' w.heap.size v (expR k info n)) ∧ Kp w w' := by
 obtain ⟨ai, ci, rfl, _, _⟩ := hi.shape;by_cases h1 : n < 0
 ·have hno := acb k info (.inl h1)
  rw [hno.1, hno.2];have d1 : decide (n < 0) = true := by simp [h1]
  go_enter Try.func67, Try.ntmps67;go_wp2_with fail;go_ret2;exact ⟨⟨_, rfl, Ow.nil _ _ _⟩, Kp.refl _⟩
 ·by_cases h2 : 8160 < n
  ·have hno := acb k info (.inr h2)
   rw [hno.1, hno.2];have d1 : decide (n < 0) = false := by simp; omega
   have d2 : decide (8160 < n) = true := by simp [h2]
   go_enter Try.func67, Try.ntmps67;go_wp2_with fail;go_ret2;exact ⟨⟨_, rfl, Ow.nil _ _ _⟩, Kp.refl _⟩
  ·obtain ⟨n, rfl⟩ := Int.eq_ofNat_of_zero_le (show 0 ≤ n by omega)
   have hyes := adA k info (show (n : Int) ≤ 8160 by omega);rw [hyes.1, hyes.2];have d1 : decide ((n : Int) < 0) = false := by simp
   have d2 : decide (8160 < (n : Int)) = false := by simp; omega
   clear hyes;go_enter Try.func67, Try.ntmps67;go_wp2_with fail;refine (ad7 vk _ k info _ hk hkl ⟨_, _, _, rfl⟩).mono ?_;rintro e w1 ⟨⟨gK, rfl, o1, o2, o3⟩, k1⟩;go_wp2_with fail;refine (afu n vk _ k info w w1 _ _ gK k1 o1 o2 o3 (hi.kp k1) hkl hil (by omega)).mono ?_;rintro e w2 ⟨⟨v, rfl, o⟩, k2⟩;go_wp2_with fail;go_ret2;exact ⟨⟨_, rfl, o.mono k1.size⟩, k1.trans k2⟩
end Go.Proofs.Ytbhkdlpdolioaaa
