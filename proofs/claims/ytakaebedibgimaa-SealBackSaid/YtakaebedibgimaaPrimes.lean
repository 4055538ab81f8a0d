/- sha.primes: the primes below 312, one by one. -/
import Derived.Test.YtakaebedibgimaaCube
import Derived.Test.YtakaebedibgimaaRange
import Derived.Laws.Rows
set_option linter.unusedVariables false
set_option linter.unusedSimpArgs false
namespace Go.Proofs.Ytakaebedibgimaa
open Go.RowKit Go.Shelf

attribute [local go_sem] Oper.semAt_some

/-- Block g holds just these bools. -/
def Br (T : TypeId) (w : World) (g : Nat) (l : List Bool) : Prop := w.heap[g]? = some (.cells (l.map Value.bool).toArray T (0, 0))
theorem Br.lt {T : TypeId} {w : World} {g : Nat} {l : List Bool} (h : Br T w g l) : g < w.heap.size := (Array.getElem?_eq_some_iff.1 h).1
theorem Br.cell {T : TypeId} {w : World} {g : Nat} {l : List Bool} (h : Br T w g l) (i : Nat) (hi : i < l.length) : w.cell? ⟨g, i, none⟩ = some (.bool (l.getD i false)) := by
  rw [cell_of_row w g i _ T _ h]
  simp [hi]
theorem Br.frozen {T : TypeId} {w : World} {g : Nat} {l : List Bool} (h : Br T w g l) (i : Nat) : w.frozen? ⟨g, i, none⟩ = false := by
  have h' := h
  unfold Br at h'
  simp [World.frozen?, h']
theorem Br.set {T : TypeId} {w : World} {g : Nat} {l : List Bool} (h : Br T w g l) (i : Nat) (x : Bool) : Br T (w.setCell ⟨g, i, none⟩ (.bool x)) g (l.set i x) := by
  have h' := h
  unfold Br at h' ⊢
  obtain ⟨hlt, heq⟩ := Array.getElem?_eq_some_iff.1 h'
  simp [World.setCell, hlt, Array.getElem_modify, heq, List.map_set]
theorem Br.new (T : TypeId) (w : World) (cs : Array Value) (l : List Bool) (h : cs = (l.map Value.bool).toArray) : Br T (w.alloc (.cells cs T)) w.heap.size l := by
  subst h
  exact heap_alloc_new w _

theorem zero_bools (w : World) : (zeroValue 127).run Try.prog w = .ok (.agg (List.replicate 312 (Value.bool false)).toArray) w := by kernel_rfl
attribute [local go_sem] zero_bools

set_option maxRecDepth 100000 in
set_option maxHeartbeats 4000000 in
theorem primes_it (m : Nat) (hm : 1 ≤ m) (X : Nat → Prop) (w : World) (hX : ∀ k, X k → k < w.heap.size) :
    Iterates Fence.wide m Try.prog 92 #[] (fun i => #[.int .u64 (primeAt i)]) 64 X w := by
  intro l J W hb hl1 hl2 hJ hY h0
  have HJ := Lib.hid hJ
  have HY := Lib.hid hY
  have HX := Lib.hid hX
  clear hJ hY hX
  refine callsIn_of_wp Try.func92 rfl trivial ?_ rfl
  simp only [Try.ntmps92, List.append_toArray, List.append_nil, List.size_toArray, List.length_cons, List.length_nil, Nat.reduceAdd, Nat.reduceSub, Array.replicate_succ, Array.replicate_zero, List.push_toArray, List.nil_append, List.cons_append]
  gi_wp2
  have hD0 : Br 127 (W.alloc (.cells (List.replicate 312 (Value.bool false)).toArray 127)) W.heap.size (sieve 2).D := Br.new _ _ _ _ rfl
  gi_loopw [3] (fun p wr => ∃ q : Nat, 2 ≤ q ∧ q ≤ 312 ∧ p = .int .u64 q ∧ Br 127 wr W.heap.size (sieve q).D ∧ J (sieve q).ps.length wr) (fun p _ => 312 - (intOf p).toNat)
  case atStart => exact ⟨2, by omega, by omega, rfl, hD0, HJ.out _ _ _ h0 ((Below.refl _ W).alloc (Nat.le_refl _) _)⟩
  case round =>
    clear hD0
    obtain ⟨q, hq1, hq2, rfl, hD, hj⟩ := hrel
    by_cases hlt : q < 312
    · have hlen := sieve_length q
      have hc := hD.cell q (by omega)
      have hqi : (q : Int) < 312 := by omega
      rcases hdv : (sieve q).D.getD q false with _ | _
      · have hnext := (sieve_next ⟨q, hlt⟩).resolve_left (by rw [hdv]; decide)
        have hn2 := hnext.resolve_left (by simp; omega)
        obtain ⟨hp, h64⟩ := hn2
        simp only at hp h64
        obtain ⟨fn, tmps, assign, body, hy, hR⟩ := HY.out (sieve q).ps.length wr h64 hj
        rw [hp] at hy
        have HT := Lib.hid (sieve_take q hdv hq1)
        have HP := Lib.hid hp
        rw [hdv] at hc
        have HD := Lib.hid hdv
        have HL := Lib.hid hlen
        clear hdv hp hnext h64 hlen
        gi_wp2
        refine hR.mono ?_
        rintro e W3 ⟨rfl, hj3, hs3⟩
        have hD3 : Br 127 W3 W.heap.size (sieve q).D :=
          (hs3.block _ hD.lt (fun h => h.elim (fun e => by omega) (fun hx => by have := HX.out _ hx; have := hb.size; omega))).trans hD
        clear hR hs3 hD hj hc
        have hqq0 : 0 ≤ (q : Int) * (q : Int) := Int.mul_nonneg (by omega) (by omega)
        have hqq : (q : Int) * (q : Int) ≤ 97344 := by
          have h2 := Int.mul_le_mul (show (q : Int) ≤ 312 by omega) (show (q : Int) ≤ 312 by omega) (by omega) (by omega)
          exact h2
        have hmul : IntKind.u64.wrap ((q : Int) * (q : Int)) = ((q * q : Nat) : Int) := by rw [u64_in _ (by omega) (by omega)]; simp
        obtain ⟨M, hM⟩ : ∃ M, mark 312 q (q * q) (sieve q).D = M := ⟨_, rfl⟩
        have hqn : ((q * q : Nat) : Int) ≤ 97344 := by rw [Int.natCast_mul]; exact hqq
        obtain ⟨k0, hk0⟩ : ∃ k, q * q = k := ⟨_, rfl⟩
        have HT2 : Hid (sieve (q + 1) = ⟨M, (sieve q).ps ++ [q]⟩) := Lib.hid (by rw [HT.out, hM])
        rw [hk0] at hmul hM hqn
        have HM := Lib.hid hM
        clear hk0 hM hqq hqq0 HT
        gi_wp2
        gi_loopw [4] (fun x wq => ∃ k : Nat, (k : Int) ≤ 100000 ∧ x = .int .u64 k ∧ (∃ f D', Br 127 wq W.heap.size D' ∧ D'.length = 312 ∧ mark f q k D' = M ∧ 312 ≤ f + k) ∧ J ((sieve q).ps.length + 1) wq) (fun x _ => 312 - (intOf x).toNat)
        case atStart => exact ⟨k0, by omega, rfl, ⟨312, (sieve q).D, hD3, HL.out, HM.out, by omega⟩, hj3⟩
        case round =>
          clear hD3 hj3 HM hmul hqn
          obtain ⟨k, hkb, rfl, ⟨f, D', hB, hl, hm, hf⟩, hj⟩ := hrel
          by_cases hlt2 : k < 312
          · have hc := hB.cell k (by omega)
            have hfz := hB.frozen k
            have hki : (k : Int) < 312 := by omega
            have hadd : IntKind.u64.wrap ((k : Int) + (q : Int)) = (k : Int) + (q : Int) := u64_in _ (by omega) (by omega)
            have HM := Lib.hid hm
            have HL2 := Lib.hid hl
            clear hm hl
            gi_wp2
            go_roundw
            case rel =>
              obtain ⟨g, hg1, hg2⟩ := mark_go f q k D' hlt2 (by omega) hf
              exact ⟨k + q, by omega, by simp, ⟨g, D'.set k true, hB.set k true, by rw [List.length_set]; exact HL2.out, hg2.trans HM.out, hg1⟩, HJ.out _ _ _ hj ((Below.refl _ _).setCell (by simp) _)⟩
            case measure => simp [intOf]; omega
          · have HE := Lib.hid ((mark_end f q k D' hlt2).symm.trans hm)
            have hge : ¬ (k : Int) < 312 := by omega
            clear hm hl
            gi_wp2
            go_roundw
            case rel =>
              refine ⟨q + 1, by omega, by omega, by simp, ?_, ?_⟩
              · rw [HT2.out, ← HE.out]; exact hB
              · rw [HT2.out]; simpa using hj
            case measure => simp [intOf]; omega
      · have HS := Lib.hid (sieve_skip q hdv hq1)
        rw [hdv] at hc
        clear hdv hlen
        gi_wp2
        go_roundw
        case rel => exact ⟨q + 1, by omega, by omega, by simp, by rw [HS.out]; exact hD, by rw [HS.out]; exact hj⟩
        case measure => simp [intOf]; omega
    · have h312 : q = 312 := by omega
      have hj' : J 64 wr := by rw [h312, primes_64] at hj; exact hj
      have hge : ¬ (q : Int) < 312 := by omega
      clear h312 hj hq2
      gi_wp2
      go_end0
      exact ⟨⟨_, rfl⟩, hj'⟩
end Go.Proofs.Ytakaebedibgimaa
