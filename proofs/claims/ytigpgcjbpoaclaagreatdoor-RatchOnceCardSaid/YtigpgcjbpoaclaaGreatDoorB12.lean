import Derived.Test.YtigpgcjbpoaclaaGreatDoorB3
import Derived.Test.YtigpgcjbpoaclaaGreatDoorB8
import Derived.Laws.Rows
set_option linter.unusedVariables false
set_option linter.unusedSimpArgs false
namespace Go.Proofs.YtigpgcjbpoaclaaGreatDoor
open Go.RowKit Go.Shelf
attribute [local go_sem] Oper.semAt_some
def Br (T : TypeId) (w : World) (g : Nat) (l : List Bool) : Prop := w.heap[g]? = some (.cells (l.map Value.bool).toArray T (0, 0))
theorem Br.lt {T : TypeId} {w : World} {g : Nat} {l : List Bool} (h : Br T w g l) : g < w.heap.size := (Array.getElem?_eq_some_iff.1 h).1
theorem Br.cell {T : TypeId} {w : World} {g : Nat} {l : List Bool} (h : Br T w g l) (i : Nat) (hi : i < l.length) : w.cell? ⟨g, i, none⟩ = some (.bool (l.getD i false)) := by
  rw [cell_of_row w g i _ T _ h]
  simp [hi]
theorem Br.frozen {T : TypeId} {w : World} {g : Nat} {l : List Bool} (h : Br T w g l) (i : Nat) : w.frozen? ⟨g, i, none⟩ = false := by
  have h' := h
  unfold Br at h'
  simp [World.frozen?, h']
theorem Br.set {T : TypeId} {w : World} {g : Nat} {l : List Bool} (h : Br T w g l) (i : Nat) (x : Bool) : Br T (w.setCell ⟨g, i, none⟩ (.bool x)) g (l.set i x) := by
  have h' := h
  unfold Br at h' ⊢
  obtain ⟨hlt, heq⟩ := Array.getElem?_eq_some_iff.1 h'
  simp [World.setCell, hlt, Array.getElem_modify, heq, List.map_set]
theorem Br.new (T : TypeId) (w : World) (cs : Array Value) (l : List Bool) (h : cs = (l.map Value.bool).toArray) : Br T (w.alloc (.cells cs T)) w.heap.size l := by
  subst h
  exact heap_alloc_new w _
set_option maxRecDepth 100000 in
set_option maxHeartbeats 4000000 in
theorem primes_it (m : Nat) (hm : 1 ≤ m) (X : Nat → Prop) (w : World) (hX : ∀ k, X k → k < w.heap.size) :
    Iterates Fence.wide m Tryz.prog 109 #[] (fun i => #[.int .u64 (primeAt i)]) 64 X w := by
  intro l J W hb hl1 hl2 hJ hY h0
  have HJ := Lib.hid hJ
  have HY := Lib.hid hY
  have HX := Lib.hid hX
  clear hJ hY hX
  refine callsIn_of_wp Tryz.func109 rfl trivial ?_ rfl
  simp only [Tryz.ntmps109, List.append_toArray, List.append_nil, List.size_toArray, List.length_cons, List.length_nil, Nat.reduceAdd, Nat.reduceSub, Array.replicate_succ, Array.replicate_zero, List.push_toArray, List.nil_append, List.cons_append]
  gi_wp2
  have hD0 : Br 138 (W.alloc (.cells (List.replicate 312 (Value.bool false)).toArray 138)) W.heap.size (sieve 2).D := Br.new _ _ _ _ rfl
  gi_loopw [3] (fun p wr => ∃ q : Nat, 2 ≤ q ∧ q ≤ 312 ∧ p = .int .u64 q ∧ Br 138 wr W.heap.size (sieve q).D ∧ J (sieve q).ps.length wr) (fun p _ => 312 - (intOf p).toNat)
  case atStart => exact ⟨2, by omega, by omega, rfl, hD0, HJ.out _ _ _ h0 ((Below.refl _ W).alloc (Nat.le_refl _) _)⟩
  case round =>
    clear hD0
    obtain ⟨q, hq1, hq2, rfl, hD, hj⟩ := hrel
    by_cases hlt : q < 312
    · have hlen := sieve_length q
      have hc := hD.cell q (by omega)
      have hqi : (q : Int) < 312 := by omega
      rcases hdv : (sieve q).D.getD q false with _ | _
      · have hnext := (sieve_next ⟨q, hlt⟩).resolve_left (by rw [hdv]; decide)
        have hn2 := hnext.resolve_left (by simp; omega)
        obtain ⟨hp, h64⟩ := hn2
        simp only at hp h64
        obtain ⟨fn, tmps, assign, body, hy, hR⟩ := HY.out (sieve q).ps.length wr h64 hj
        rw [hp] at hy
        have HT := Lib.hid (sieve_take q hdv hq1)
        have HP := Lib.hid hp
        rw [hdv] at hc
        have HD := Lib.hid hdv
        have HL := Lib.hid hlen
        clear hdv hp hnext h64 hlen
        gi_wp2
        refine hR.mono ?_
        rintro e W3 ⟨rfl, hj3, hs3⟩
        have hD3 : Br 138 W3 W.heap.size (sieve q).D :=
          (hs3.block _ hD.lt (fun h => h.elim (fun e => by omega) (fun hx => by have := HX.out _ hx; have := hb.size; omega))).trans hD
        clear hR hs3 hD hj hc
        have hqq0 : 0 ≤ (q : Int) * (q : Int) := Int.mul_nonneg (by omega) (by omega)
        have hqq : (q : Int) * (q : Int) ≤ 97344 := by
          have h2 := Int.mul_le_mul (show (q : Int) ≤ 312 by omega) (show (q : Int) ≤ 312 by omega) (by omega) (by omega)
          exact h2
        have hmul : IntKind.u64.wrap ((q : Int) * (q : Int)) = ((q * q : Nat) : Int) := by rw [u64_in _ (by omega) (by omega)]; simp
        obtain ⟨M, hM⟩ : ∃ M, mark 312 q (q * q) (sieve q).D = M := ⟨_, rfl⟩
        have hqn : ((q * q : Nat) : Int) ≤ 97344 := by rw [Int.natCast_mul]; exact hqq
        obtain ⟨k0, hk0⟩ : ∃ k, q * q = k := ⟨_, rfl⟩
        have HT2 : Hid (sieve (q + 1) = ⟨M, (sieve q).ps ++ [q]⟩) := Lib.hid (by rw [HT.out, hM])
        rw [hk0] at hmul hM hqn
        have HM := Lib.hid hM
        clear hk0 hM hqq hqq0 HT
        gi_wp2
        gi_loopw [4] (fun x wq => ∃ k : Nat, (k : Int) ≤ 100000 ∧ x = .int .u64 k ∧ (∃ f D', Br 138 wq W.heap.size D' ∧ D'.length = 312 ∧ mark f q k D' = M ∧ 312 ≤ f + k) ∧ J ((sieve q).ps.length + 1) wq) (fun x _ => 312 - (intOf x).toNat)
        case atStart => exact ⟨k0, by omega, rfl, ⟨312, (sieve q).D, hD3, HL.out, HM.out, by omega⟩, hj3⟩
        case round =>
          clear hD3 hj3 HM hmul hqn
          obtain ⟨k, hkb, rfl, ⟨f, D', hB, hl, hm, hf⟩, hj⟩ := hrel
          by_cases hlt2 : k < 312
          · have hc := hB.cell k (by omega)
            have hfz := hB.frozen k
            have hki : (k : Int) < 312 := by omega
            have hadd : IntKind.u64.wrap ((k : Int) + (q : Int)) = (k : Int) + (q : Int) := u64_in _ (by omega) (by omega)
            have HM := Lib.hid hm
            have HL2 := Lib.hid hl
            clear hm hl
            gi_wp2
            go_roundw
            case rel =>
              obtain ⟨g, hg1, hg2⟩ := mark_go f q k D' hlt2 (by omega) hf
              exact ⟨k + q, by omega, by simp, ⟨g, D'.set k true, hB.set k true, by rw [List.length_set]; exact HL2.out, hg2.trans HM.out, hg1⟩, HJ.out _ _ _ hj ((Below.refl _ _).setCell (by simp) _)⟩
            case measure => simp [intOf]; omega
          · have HE := Lib.hid ((mark_end f q k D' hlt2).symm.trans hm)
            have hge : ¬ (k : Int) < 312 := by omega
            clear hm hl
            gi_wp2
            go_roundw
            case rel =>
              refine ⟨q + 1, by omega, by omega, by simp, ?_, ?_⟩
              · rw [HT2.out, ← HE.out]; exact hB
              · rw [HT2.out]; simpa using hj
            case measure => simp [intOf]; omega
      · have HS := Lib.hid (sieve_skip q hdv hq1)
        rw [hdv] at hc
        clear hdv hlen
        gi_wp2
        go_roundw
        case rel => exact ⟨q + 1, by omega, by omega, by simp, by rw [HS.out]; exact hD, by rw [HS.out]; exact hj⟩
        case measure => simp [intOf]; omega
    · have h312 : q = 312 := by omega
      have hj' : J 64 wr := by rw [h312, primes_64] at hj; exact hj
      have hge : ¬ (q : Int) < 312 := by omega
      clear h312 hj hq2
      gi_wp2
      go_end0
      exact ⟨⟨_, rfl⟩, hj'⟩
attribute [local go_sem] Oper.semAt_some
set_option maxHeartbeats 1000000 in
theorem chunk_any (a : Option Addr) (n c : Nat) (w : World) :
    Calls Tryz.prog 103 #[.slice a n c, .int .i64 64] w fun e w' => e = .returned (.func (.func 111) #[] #[.pointer (some ⟨w.heap.size, 0, none⟩), .pointer (some ⟨w.heap.size + 1, 0, none⟩)]) ∧
      (w.alloc (.cells #[.slice a n c] 22)).alloc (.cells #[.int .i64 64] 3) = w' := by
  go_enter Tryz.func103, Tryz.ntmps103
  go_wp2
  go_ret
  exact ⟨rfl, rfl⟩
def chunkV (a : Option Addr) (i : Nat) : Value :=
  match a with
  | some ⟨b, o, _⟩ => .slice (some ⟨b, o + 64 * i, none⟩) 64 64
  | none => undef
theorem cell_same {X : Nat → Prop} {A B : World} (h : Same X A B) {p : Addr} {v : Value} (hv : A.cell? p = some v) (hx : ¬ X p.block) : B.cell? p = some v :=
  (World.cell?_of_block (w := A) (h.block p.block (World.block_lt_of_cell? A p hv) hx)).trans hv
set_option maxRecDepth 100000 in
set_option maxHeartbeats 4000000 in
theorem chunk_it (m : Nat) (hm : 1 ≤ m) (X : Nat → Prop) (w : World) (a : Option Addr) (N c B2 B3 : Nat) (hv : w.cell? ⟨B2, 0, none⟩ = some (.slice a (64 * N) c)) (hn : w.cell? ⟨B3, 0, none⟩ = some (.int .i64 64))
    (hX2 : ¬ X B2) (hX3 : ¬ X B3) (hc : 64 * N ≤ c) (hcm : c ≤ maxLen) (ha : 0 < N → ∃ b o, a = some ⟨b, o, none⟩) :
    Iterates Fence.wide m Tryz.prog 111 #[.pointer (some ⟨B2, 0, none⟩), .pointer (some ⟨B3, 0, none⟩)] (fun i => #[chunkV a i]) N X w := by
  intro l J W hb hl1 hl2 hJ hY h0
  have HJ := Lib.hid hJ
  have HY := Lib.hid hY
  have hv1 := (hb.cell (p := ⟨B2, 0, none⟩) (World.block_lt_of_cell? w _ hv)).trans hv
  have hn1 := (hb.cell (p := ⟨B3, 0, none⟩) (World.block_lt_of_cell? w _ hn)).trans hn
  have hB2 : B2 ≠ l := by have := World.block_lt_of_cell? w _ hv; simp at this; omega
  have hB3 : B3 ≠ l := by have := World.block_lt_of_cell? w _ hn; simp at this; omega
  have HB := Lib.hid (And.intro hB2 hB3)
  have HA := Lib.hid ha
  unfold maxLen at hcm
  clear hJ hY hv hn hB2 hB3 ha
  refine callsIn_of_wp Tryz.func111 rfl trivial ?_ rfl
  simp only [Tryz.ntmps111, List.append_toArray, List.size_toArray, List.length_cons, List.length_nil, Nat.reduceAdd, Nat.reduceSub, Array.replicate_succ, Array.replicate_zero, List.push_toArray, List.nil_append, List.cons_append]
  gi_wp2
  gi_loopw [4] (fun p wr => ∃ k : Nat, k ≤ N ∧ p = .int .i64 (64 * (k : Int)) ∧ wr.cell? ⟨B2, 0, none⟩ = some (.slice a (64 * N) c) ∧ wr.cell? ⟨B3, 0, none⟩ = some (.int .i64 64) ∧ J k wr) (fun p _ => 64 * N - (intOf p).toNat)
  case atStart => exact ⟨0, by omega, rfl, hv1, hn1, h0⟩
  case round =>
    clear hv1 hn1 h0
    obtain ⟨k, hk, rfl, hv, hn, hj⟩ := hrel
    by_cases hlt : k < N
    · obtain ⟨b, o, rfl⟩ := HA.out (by omega)
      have hlt' : 64 * (k : Int) < 64 * (N : Int) := by omega
      have hnc : ¬ c = 64 * k := by omega
      have e1 : 64 * N - 64 * k = 64 * (N - k) := by omega
      have hle : 64 * (k : Int) + 64 ≤ 64 * (N : Int) := by omega
      have hlec : 64 * k + 64 ≤ c := by omega
      have hkk : 64 * k + 64 - 64 * k = 64 := by omega
      gi_wp2
      gi_region
      obtain ⟨fn, tmps, assign, body, hy, hR⟩ := HY.out k wr.drew hlt (HJ.out _ _ _ hj ((Below.refl _ _).drew))
      simp only [chunkV] at hy
      gi_wp2
      refine hR.mono ?_
      rintro e W3 ⟨rfl, hj3, hs3⟩
      have hv3 : W3.cell? ⟨B2, 0, none⟩ = some (.slice (some ⟨b, o, none⟩) (64 * N) c) := cell_same hs3 hv (fun h => h.elim (fun e => HB.out.1 e) hX2)
      have hn3 : W3.cell? ⟨B3, 0, none⟩ = some (.int .i64 64) := cell_same hs3 hn (fun h => h.elim (fun e => HB.out.2 e) hX3)
      clear hv hn hj hs3 hR hy
      gi_wp2
      go_roundw
      case rel => exact ⟨k + 1, by omega, by congr 1, hv3, hn3, hj3⟩
      case measure => simp [intOf]; omega
    · gi_wp2
      go_end0
      obtain rfl : k = N := by omega
      exact ⟨⟨_, rfl⟩, hj⟩
end Go.Proofs.YtigpgcjbpoaclaaGreatDoor
