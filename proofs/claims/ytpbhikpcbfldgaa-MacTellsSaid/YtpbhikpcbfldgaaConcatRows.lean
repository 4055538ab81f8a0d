/- slices.Concat of any rows of bytes, some byte among them. -/
import Derived.Test.YtpbhikpcbfldgaaConcat
import Derived.Test.YtpbhikpcbfldgaaVals
set_option linter.unusedVariables false
set_option linter.unusedSimpArgs false
namespace Go.Proofs.Ytpbhikpcbfldgaa
open Go.RowKit

theorem flat_succ (ls : List (List UInt8)) (k : Nat) (h : k < ls.length) : (ls.take (k + 1)).flatten = (ls.take k).flatten ++ ls.getD k [] := by
  rw [List.take_succ_eq_append_getElem h, List.flatten_append, List.getD_eq_getElem?_getD, List.getElem?_eq_getElem h]
  simp
theorem flat_le (ls : List (List UInt8)) (k : Nat) : (ls.take k).flatten.length ≤ ls.flatten.length := by
  have e : ls.flatten = (ls.take k).flatten ++ (ls.drop k).flatten := by rw [← List.flatten_append, List.take_append_drop]
  rw [e, List.length_append]
  omega

set_option maxHeartbeats 2000000 in
theorem concat_rows (v : Value) (ls : List (List UInt8)) (w : World) (h : RL w v ls) (hp : 0 < ls.flatten.length) (hb : ls.flatten.length ≤ 1000000) (hn : ls.length ≤ 1000000) :
    Calls Try.prog 34 #[v] w fun e w' => (∃ v, e = .returned v ∧ Ow 5 w' w.heap.size v ls.flatten) ∧ Kp w w' := by
  have U := u8
  obtain ⟨a, c, rfl, h1, h2⟩ := h.shape
  unfold maxLen at h2
  have HG := Lib.hid (grow_any ls.flatten.length w hp hb)
  have HF := Lib.hid (flat_succ ls)
  have HL := Lib.hid (flat_le ls)
  have hall : (ls.take ls.length).flatten = ls.flatten := by rw [List.take_length]
  have HA := Lib.hid hall
  clear hall
  go_enter Try.func34, Try.ntmps34
  go_wp2_with fail
  go_loopw [3, 11] (fun s i wr => (∃ k : Nat, k ≤ ls.length ∧ i = .int .i64 k ∧ s = .int .i64 ((ls.take k).flatten.length : Int)) ∧ wr = w) (fun _ i _ => ls.length - (intOf i).toNat)
  case atStart => exact ⟨⟨0, by omega, rfl, rfl⟩, rfl⟩
  case round =>
    obtain ⟨⟨k, hk, rfl, rfl⟩, rfl⟩ := hrel
    rename World => w
    by_cases hlt : k < ls.length
    · obtain ⟨b, off, rfl, _, hcell⟩ := h.at k hlt
      obtain ⟨u, hcu, hru⟩ := hcell k hlt
      obtain ⟨au, cu, rfl, p1, p2⟩ := hru.shape
      have hs := congrArg List.length (HF.out k hlt)
      rw [List.length_append] at hs
      have hle := HL.out (k + 1)
      obtain ⟨N, hN⟩ : ∃ N, (ls.take k).flatten.length = N := ⟨_, rfl⟩
      obtain ⟨M, hM⟩ : ∃ M, (ls.getD k []).length = M := ⟨_, rfl⟩
      obtain ⟨T, hT⟩ : ∃ T, (ls.take (k + 1)).flatten.length = T := ⟨_, rfl⟩
      rw [hN, hM, hT] at hs
      rw [hT] at hle
      rw [hM] at hcu p1
      rw [hN]
      have b1 : (N : Int) + (M : Int) ≤ 1000000 := by omega
      have HT := Lib.hid (show (T : Int) = (N : Int) + (M : Int) by omega)
      have HT2 := Lib.hid hT
      unfold maxLen at p2
      clear hcell hru hs hN hM hT HG
      go_wp2_with fail
      go_roundw
      case rel => exact ⟨⟨k + 1, by omega, by go_num, by rw [HT2.out, HT.out]⟩, trivial⟩
      case measure => simp [intOf]; omega
    · obtain rfl : k = ls.length := by omega
      rw [HA.out]
      obtain ⟨F, hF⟩ : ∃ F, ls.flatten.length = F := ⟨_, rfl⟩
      rw [hF] at HG hp hb
      rw [hF]
      have HFL := Lib.hid hF
      clear hF
      go_wp2_with fail
      refine HG.out.mono ?_
      rintro e w1 ⟨⟨v, rfl, ho⟩, hk1⟩
      go_wp2_with fail
      go_loopw [6, 27] (fun u i wq => (∃ k : Nat, k ≤ ls.length ∧ i = .int .i64 k ∧ Ow 5 wq w.heap.size u (ls.take k).flatten) ∧ Kp w wq) (fun _ i _ => ls.length - (intOf i).toNat)
      case atStart => exact ⟨⟨0, by omega, rfl, ho⟩, hk1⟩
      case round =>
        clear ho hk1
        obtain ⟨⟨k, hk, rfl, ho⟩, hkp⟩ := hrel
        by_cases hlt : k < ls.length
        · obtain ⟨b, off, rfl, _, hcell⟩ := h.at k hlt
          obtain ⟨u, hcu, hru⟩ := hcell k hlt
          have hcu' := hkp.cell hcu
          have hru' := hru.kp hkp
          obtain ⟨au, cu, rfl, p1, p2⟩ := hru.shape
          have hs := congrArg List.length (HF.out k hlt)
          rw [List.length_append] at hs
          have hle := HL.out (k + 1)
          rw [HFL.out] at hle
          have hle2 : (List.take k ls).flatten.length + (ls.getD k []).length ≤ 1000000 := by omega
          have hsz := hkp.size
          have HFK := Lib.hid (HF.out k hlt)
          obtain ⟨X, hX⟩ : ∃ X, ls.getD k [] = X := ⟨_, rfl⟩
          obtain ⟨Y, hY⟩ : ∃ Y, (ls.take k).flatten = Y := ⟨_, rfl⟩
          rw [hX] at hcu' hru' p1 hle2 HFK
          rw [hY] at ho hle2 HFK
          unfold maxLen at p2
          clear hcell hru hs hcu hle HG hX hY
          go_wp2_with (at_builtin; refine wpList_append_ow U rfl _ _ rfl w.heap.size _ _ rfl ho _ X rfl hru' ?c1 hsz ?_; rotate_right; intro v' w2 ho2 hg2 _)
          case c1 => omega
          go_roundw
          case rel => exact ⟨⟨k + 1, by omega, by go_num, by rw [HFK.out]; exact ho2⟩, Kp.grown hkp hg2 ho.own_ge⟩
          case measure => simp [intOf]; omega
        · obtain rfl : k = ls.length := by omega
          rw [HA.out] at ho
          go_wp2_with fail
          go_ret
          exact ⟨⟨_, rfl, ho⟩, hkp⟩
end Go.Proofs.Ytpbhikpcbfldgaa
