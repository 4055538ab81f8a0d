/- The walk of the law BytJoins. -/
import Derived.Test.YtpaopnjknpoacaaLaws5
import Derived.Test.YtpaopnjknpoacaaOpen
namespace Go.Proofs.Ytpaopnjknpoacaa
open Go.RowKit

/-- Rows and a number behind each. -/
def enc (n : Nat) (ls : List (List UInt8)) : List UInt8 := ls.flatMap fun x => rowB x ++ be 4 n
theorem enc_snoc (n : Nat) (ls : List (List UInt8)) (k : Nat) (h : k < ls.length) : enc n (ls.take (k + 1)) = enc n (ls.take k) ++ rowB (ls.getD k []) ++ be 4 n := by
  rw [List.take_succ_eq_append_getElem h, enc, List.flatMap_append, List.getD_eq_getElem?_getD, List.getElem?_eq_getElem h]
  simp [enc, List.append_assoc]
theorem enc_split (n : Nat) (ls : List (List UInt8)) (k : Nat) (h : k < ls.length) : enc n ls = enc n (ls.take k) ++ (rowB (ls.getD k []) ++ (be 4 n ++ enc n (ls.drop (k + 1)))) := by
  have e : ls = ls.take k ++ ls[k] :: ls.drop (k + 1) := by rw [← List.drop_eq_getElem_cons h, List.take_append_drop]
  rw [List.getD_eq_getElem?_getD, List.getElem?_eq_getElem h]
  have h2 : enc n (ls.take k ++ ls[k] :: ls.drop (k + 1)) = enc n (ls.take k) ++ (rowB ls[k] ++ (be 4 n ++ enc n (ls.drop (k + 1)))) := by
    simp only [enc, List.flatMap_append, List.flatMap_cons, List.append_assoc]
  rw [← e] at h2
  exact h2
theorem drop_enc (n : Nat) (ls : List (List UInt8)) (k : Nat) (h : k < ls.length) :
    (enc n ls).drop (enc n (ls.take k)).length = rowB (ls.getD k []) ++ (be 4 n ++ enc n (ls.drop (k + 1))) := by
  conv => lhs; rw [enc_split n ls k h]
  rw [List.drop_append_of_le_length (Nat.le_refl _), List.drop_length, List.nil_append]

theorem Ow.kept_of {e : TypeId} {w w' : World} {B : Nat} {v u : Value} {l : List UInt8} (h : Ow e w B v l) (hg : w.grownBy w' u.ownBlock) (hu : ∀ k, u.ownBlock = some k → k < B) : Ow e w' B v l := by
  refine ⟨h.1, ?_⟩
  rcases h.2 with hn | ⟨g, cap, cur, rfl, hb, hh, rest⟩
  · exact .inl hn
  · refine .inr ⟨g, cap, cur, rfl, hb, ?_, rest⟩
    rw [hg.block g (Array.getElem?_eq_some_iff.1 hh).1 (fun e => by have := hu g e.symm; omega)]
    exact hh

set_option maxRecDepth 100000 in
set_option maxHeartbeats 1600000 in
theorem bytJoins_walk (n : Nat) (v : Value) (ls : List (List UInt8)) (w : World) (hn : (n : Int) ≤ 4294967295) (h : RdL w v ls) :
    Calls Try.prog 9 #[v, .int .u32 n] w (Yes w) := by
  have U := u8
  obtain ⟨a, c, rfl, hc, hm, hin⟩ := h
  unfold maxLen at hm
  by_cases h20 : ls.length ≤ 20
  · have d1 : decide ((20 : Int) < ls.length) = false := by simp; omega
    have HNE := Lib.hid (num_yes (n := n) (w := 4) ⟨by omega, by omega, by omega, by rw [show (256 : Int) ^ (4 : Int).toNat = 4294967296 from by decide]; omega⟩)
    have HIN := Lib.hid hin
    clear hin
    go_enter Try.func9, Try.ntmps9
    go_wp2_with fail
    refine (shown_any _).mono ?_
    rintro e w1 ⟨rfl, k1⟩
    go_wp2_with fail
    have o1 : Ow 5 (w1.alloc (.cells #[] 5)) w.heap.size (.slice (some ⟨w1.heap.size, 0, none⟩) 0 0) [] := Ow.lit w1 _ _ 0 #[] [] k1.size rfl (by omega) rfl
    have b1 : Below w.heap.size w (w1.alloc (.cells #[] 5)) := Below.alloc k1 k1.size _
    generalize hB : w.heap.size = B at *
    have HB := Lib.hid hB
    clear hB
    go_loopw [6, 7] (fun all i wr => ∃ k : Nat, k ≤ ls.length ∧ i = .int .i64 k ∧ Ow 5 wr B all (enc n (ls.take k)) ∧ (∀ j, j < k → (ls.getD j []).length ≤ 100) ∧ (enc n (ls.take k)).length ≤ 108 * k ∧ Below B w wr) (fun _ i _ => ls.length - (intOf i).toNat)
    case atStart => exact ⟨0, Nat.zero_le _, rfl, o1, fun j hj => by omega, by simp [enc], b1⟩
    case round =>
      obtain ⟨k, hk, rfl, hown, hsm, hel, hbel⟩ := hrel
      have HSM := Lib.hid hsm
      clear hsm
      by_cases hlt : k < ls.length
      · obtain ⟨b, off, rfl, hb, hcells⟩ := HIN.out (by omega)
        obtain ⟨u, hcu, hru⟩ := hcells k hlt
        have hkp : Kp w wr := by unfold Kp; rw [HB.out]; exact hbel
        have hcu2 := hkp.cell hcu
        have hru2 := hru.kp hkp
        obtain ⟨x, hx⟩ : ∃ x, x = ls.getD k [] := ⟨_, rfl⟩
        rw [← hx] at hru2
        have HX := Lib.hid hx
        clear hcu hru hcells hx
        obtain ⟨au, cu, rfl, hcu1, hcu3⟩ := hru2.shape
        unfold maxLen at hcu3
        by_cases h100 : x.length ≤ 100
        · have d2 : decide ((100 : Int) < x.length) = false := by simp; omega
          have hro := Lib.hid (row_ok (x := x) (by omega)).1
          have hrl : (rowB x).length ≤ 104 := by rw [row_len (by omega)]; have := lenBytes_le x.length; omega
          have hB4 := Lib.hid (be_length 4 n)
          go_wp2_with fail
          refine (row_any _ x _ hru2).mono ?_
          rintro e w2 ⟨r, rfl, o2, k2⟩
          rw [hro.out]
          go_wp2_with fail
          refine (num_any n 4 _ (by omega)).mono ?_
          rintro e w3 ⟨q, rfl, o3, k3⟩
          rw [HNE.out.1]
          rw [HNE.out.2, Int.toNat_natCast, show (4 : Int).toNat = 4 from rfl] at o3
          have hown3 := hown.kp (k2.trans k3)
          have hBw : B ≤ w3.heap.size := Nat.le_trans (by have := hbel.size; rw [← HB.out]; exact this) (k2.trans k3).size
          have hbel3 : Below B w w3 := hbel.trans ((k2.trans k3).mono (by have := hbel.size; rw [← HB.out]; exact this))
          have hlt6 : Hid (∀ g, u6.ownBlock = some g → g < wr.heap.size) := fun g hg => (World.ownsRow.lt hown g hg).2
          clear hown hru2 hcu2
          go_wp2_with (first
            | (at_builtin; refine wpList_append_ow U rfl _ _ rfl B u6 (enc n (ls.take k)) rfl hown3 _ (rowB x) rfl (o2.rd.kp k3) ?x1 ?x2 ?_; rotate_right; intro va wa oa ga _)
            | (at_builtin; refine wpList_append_ow U rfl _ _ rfl B va (enc n (ls.take k) ++ rowB x) rfl oa _ (be 4 n) rfl ?x3 ?x4 ?x5 ?_; rotate_right; intro vb wb ob gb _))
          case x1 => omega
          case x2 => exact hBw
          case x3 => exact (o3.kept_of ga (fun g hg => Nat.lt_of_lt_of_le (hlt6.out g hg) k2.size)).rd
          case x4 => rw [List.length_append, hB4.out]; omega
          case x5 => exact Nat.le_trans hBw ga.size
          have hbA : Below B w wa := Below.grown' hbel3 ga hBw hown3
          have hbB : Below B w wb := Below.grown' hbA gb (Nat.le_trans hBw ga.size) oa
          clear ga gb oa
          go_roundw
          case rel =>
            have he := enc_snoc n ls k hlt
            rw [← HX.out] at he
            refine ⟨k + 1, by omega, by go_num, by rw [he]; exact ob, fun j hj => ?_, ?_, hbB⟩
            · rcases Nat.lt_or_ge j k with h | h
              · exact HSM.out j h
              · have : j = k := by omega
                subst this
                rw [← HX.out]
                exact h100
            · rw [he, List.length_append, List.length_append, hB4.out]; omega
          case measure => simp [intOf]; omega
        · have d2 : decide ((100 : Int) < x.length) = true := by simp; omega
          go_wp2_with fail
          go_ret
          exact ⟨rfl, hkp⟩
      · obtain rfl : k = ls.length := by omega
        have htk : ls.take ls.length = ls := List.take_of_length_le (by omega)
        rw [htk] at hown
        obtain ⟨nall, hnall⟩ : ∃ nall, nall = (enc n ls).length := ⟨_, rfl⟩
        obtain ⟨ga, ca, rfl⟩ := hown.sl hnall.symm
        have hnb : nall ≤ 3000 := by rw [hnall, ← htk]; omega
        have HNA := Lib.hid hnall
        have hkp : Kp w wr := by unfold Kp; rw [HB.out]; exact hbel
        obtain ⟨wo, rfl⟩ : ∃ wo : World, wo = wr := ⟨_, rfl⟩
        clear htk hnall hel hbel
        go_wp2_with fail
        go_loopw [12, 13] (fun at' i wr => ∃ k : Nat, k ≤ ls.length ∧ i = .int .i64 k ∧ at' = .int .i64 (((enc n (ls.take k)).length : Nat) : Int) ∧ Kp wo wr) (fun _ i _ => ls.length - (intOf i).toNat)
        case atStart => exact ⟨0, Nat.zero_le _, rfl, rfl, Kp.refl _⟩
        case round =>
          obtain ⟨k2, hk2, rfl, rfl, hkp2⟩ := hrel
          by_cases hlt2 : k2 < ls.length
          · obtain ⟨b, off, rfl, hb, hcells⟩ := HIN.out (by omega)
            obtain ⟨u, hcu, hru⟩ := hcells k2 hlt2
            have hcu2 := (hkp.trans hkp2).cell hcu
            have hru2 := hru.kp (hkp.trans hkp2)
            obtain ⟨x, hx⟩ : ∃ x, x = ls.getD k2 [] := ⟨_, rfl⟩
            have hx100 : x.length ≤ 100 := by rw [hx]; exact HSM.out k2 hlt2
            have hd := drop_enc n ls k2 hlt2
            have hs := enc_snoc n ls k2 hlt2
            rw [← hx] at hru2 hd hs
            obtain ⟨T1, T2, T3⟩ := tr_at (most := 100) (by omega) (by omega) hd
            have hd2 : (enc n ls).drop ((enc n (ls.take k2)).length + (rowB x).length) = be 4 n ++ enc n (ls.drop (k2 + 1)) := by
              rw [← List.drop_drop, hd, List.drop_append_of_le_length (Nat.le_refl _), List.drop_length, List.nil_append]
            obtain ⟨N1, N2, N3⟩ := tn_at (k := 4) (n := n) (by omega) (by omega) (by rw [show 256 ^ 4 = 4294967296 from by decide]; omega) hd2
            obtain ⟨P, hP⟩ : ∃ P, P = (enc n (ls.take k2)).length := ⟨_, rfl⟩
            obtain ⟨R, hR⟩ : ∃ R, R = (rowB x).length := ⟨_, rfl⟩
            have hsl : (enc n (ls.take (k2 + 1))).length = P + R + 4 := by rw [hs, List.length_append, List.length_append, be_length, hP, hR]
            have hPl : P + R + 4 ≤ nall := by
              have := congrArg List.length hd2
              rw [List.length_drop, List.length_append, be_length, ← HNA.out, ← hP, ← hR] at this
              omega
            have hown2 := hown.kp hkp2
            rw [← hP, ← hR] at T2
            rw [← hP] at T1 T3 ⊢
            rw [← hP, ← hR] at N1 N2 N3
            rw [show ((P + R : Nat) : Int) = (P : Int) + R from by omega] at N1 N2 N3
            rw [show ((4 : Nat) : Int) = 4 from rfl] at N1 N2 N3
            have HSL := Lib.hid hsl
            have T1_ := Lib.hid T1
            have T2_ := Lib.hid T2
            have T3_ := Lib.hid T3
            have N1_ := Lib.hid N1
            have N2_ := Lib.hid N2
            have N3_ := Lib.hid N3
            clear hcu hru hcells hx hd hs hd2 hP hR hsl T1 T2 T3 N1 N2 N3
            go_wp2_with fail
            refine (takeRow_at _ (enc n ls) P 100 x (P + R) 0 _ hown2.rd T1_.out T2_.out T3_.out).mono ?_
            rintro e w5 ⟨y, rfl, o5, k5⟩
            have hcu5 := k5.cell hcu2
            go_wp2_with fail
            refine (takeNum_at _ (enc n ls) (P + R) 4 n (P + R + 4) 0 _ (hown2.rd.kp k5) N1_.out N2_.out N3_.out).mono ?_
            rintro e w6 ⟨rfl, rfl⟩
            go_wp2_with fail
            refine (same_at _ _ x x true _ o5.rd (hru2.kp k5) (by simp)).mono ?_
            rintro e w7 ⟨rfl, rfl⟩
            go_wp2_with fail
            go_roundw
            case rel => exact ⟨k2 + 1, by omega, by go_num, by rw [HSL.out]; go_num, hkp2.trans k5⟩
            case measure => simp [intOf]; omega
          · have htk : ls.take k2 = ls := List.take_of_length_le (by omega)
            rw [htk, ← HNA.out]
            clear htk
            go_wp2_with fail
            go_ret
            exact ⟨rfl, hkp.trans hkp2⟩
  · have d1 : decide ((20 : Int) < ls.length) = true := by simp; omega
    go_enter Try.func9, Try.ntmps9
    go_wp2_with fail
    refine (shown_any _).mono ?_
    rintro e w1 ⟨rfl, k1⟩
    go_wp2_with fail
    go_ret
    exact ⟨rfl, k1⟩
end Go.Proofs.Ytpaopnjknpoacaa
