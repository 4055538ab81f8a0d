/- slices.Chunk over bytes, by 64. -/
import Derived.Test.YtakaebedibgimaaPrimes
set_option linter.unusedVariables false
set_option linter.unusedSimpArgs false
namespace Go.Proofs.Ytakaebedibgimaa
open Go.RowKit Go.Shelf

attribute [local go_sem] Oper.semAt_some

set_option maxHeartbeats 1000000 in
theorem chunk_any (a : Option Addr) (n c : Nat) (w : World) :
    Calls Try.prog 87 #[.slice a n c, .int .i64 64] w fun e w' => e = .returned (.func (.func 94) #[] #[.pointer (some ⟨w.heap.size, 0, none⟩), .pointer (some ⟨w.heap.size + 1, 0, none⟩)]) ∧
      (w.alloc (.cells #[.slice a n c] 22)).alloc (.cells #[.int .i64 64] 3) = w' := by
  go_enter Try.func87, Try.ntmps87
  go_wp2
  go_ret
  exact ⟨rfl, rfl⟩

/-- Piece number i of 64 bytes. -/
def chunkV (a : Option Addr) (i : Nat) : Value :=
  match a with
  | some ⟨b, o, _⟩ => .slice (some ⟨b, o + 64 * i, none⟩) 64 64
  | none => undef
theorem cell_same {X : Nat → Prop} {A B : World} (h : Same X A B) {p : Addr} {v : Value} (hv : A.cell? p = some v) (hx : ¬ X p.block) : B.cell? p = some v :=
  (World.cell?_of_block (w := A) (h.block p.block (World.block_lt_of_cell? A p hv) hx)).trans hv

set_option maxRecDepth 100000 in
set_option maxHeartbeats 4000000 in
theorem chunk_it (m : Nat) (hm : 1 ≤ m) (X : Nat → Prop) (w : World) (a : Option Addr) (N c B2 B3 : Nat) (hv : w.cell? ⟨B2, 0, none⟩ = some (.slice a (64 * N) c)) (hn : w.cell? ⟨B3, 0, none⟩ = some (.int .i64 64))
    (hX2 : ¬ X B2) (hX3 : ¬ X B3) (hc : 64 * N ≤ c) (hcm : c ≤ maxLen) (ha : 0 < N → ∃ b o, a = some ⟨b, o, none⟩) :
    Iterates Fence.wide m Try.prog 94 #[.pointer (some ⟨B2, 0, none⟩), .pointer (some ⟨B3, 0, none⟩)] (fun i => #[chunkV a i]) N X w := by
  intro l J W hb hl1 hl2 hJ hY h0
  have HJ := Lib.hid hJ
  have HY := Lib.hid hY
  have hv1 := (hb.cell (p := ⟨B2, 0, none⟩) (World.block_lt_of_cell? w _ hv)).trans hv
  have hn1 := (hb.cell (p := ⟨B3, 0, none⟩) (World.block_lt_of_cell? w _ hn)).trans hn
  have hB2 : B2 ≠ l := by have := World.block_lt_of_cell? w _ hv; simp at this; omega
  have hB3 : B3 ≠ l := by have := World.block_lt_of_cell? w _ hn; simp at this; omega
  have HB := Lib.hid (And.intro hB2 hB3)
  have HA := Lib.hid ha
  unfold maxLen at hcm
  clear hJ hY hv hn hB2 hB3 ha
  refine callsIn_of_wp Try.func94 rfl trivial ?_ rfl
  simp only [Try.ntmps94, List.append_toArray, List.size_toArray, List.length_cons, List.length_nil, Nat.reduceAdd, Nat.reduceSub, Array.replicate_succ, Array.replicate_zero, List.push_toArray, List.nil_append, List.cons_append]
  gi_wp2
  gi_loopw [4] (fun p wr => ∃ k : Nat, k ≤ N ∧ p = .int .i64 (64 * (k : Int)) ∧ wr.cell? ⟨B2, 0, none⟩ = some (.slice a (64 * N) c) ∧ wr.cell? ⟨B3, 0, none⟩ = some (.int .i64 64) ∧ J k wr) (fun p _ => 64 * N - (intOf p).toNat)
  case atStart => exact ⟨0, by omega, rfl, hv1, hn1, h0⟩
  case round =>
    clear hv1 hn1 h0
    obtain ⟨k, hk, rfl, hv, hn, hj⟩ := hrel
    by_cases hlt : k < N
    · obtain ⟨b, o, rfl⟩ := HA.out (by omega)
      have hlt' : 64 * (k : Int) < 64 * (N : Int) := by omega
      have hnc : ¬ c = 64 * k := by omega
      have e1 : 64 * N - 64 * k = 64 * (N - k) := by omega
      have hle : 64 * (k : Int) + 64 ≤ 64 * (N : Int) := by omega
      have hlec : 64 * k + 64 ≤ c := by omega
      have hkk : 64 * k + 64 - 64 * k = 64 := by omega
      gi_wp2
      gi_region
      obtain ⟨fn, tmps, assign, body, hy, hR⟩ := HY.out k wr.drew hlt (HJ.out _ _ _ hj ((Below.refl _ _).drew))
      simp only [chunkV] at hy
      gi_wp2
      refine hR.mono ?_
      rintro e W3 ⟨rfl, hj3, hs3⟩
      have hv3 : W3.cell? ⟨B2, 0, none⟩ = some (.slice (some ⟨b, o, none⟩) (64 * N) c) := cell_same hs3 hv (fun h => h.elim (fun e => HB.out.1 e) hX2)
      have hn3 : W3.cell? ⟨B3, 0, none⟩ = some (.int .i64 64) := cell_same hs3 hn (fun h => h.elim (fun e => HB.out.2 e) hX3)
      clear hv hn hj hs3 hR hy
      gi_wp2
      go_roundw
      case rel => exact ⟨k + 1, by omega, by congr 1, hv3, hn3, hj3⟩
      case measure => simp [intOf]; omega
    · gi_wp2
      go_end0
      obtain rfl : k = N := by omega
      exact ⟨⟨_, rfl⟩, hj⟩
end Go.Proofs.Ytakaebedibgimaa
