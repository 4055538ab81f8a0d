/- The document's own Bytes. -/
import Derived.Test.YtfnkcdcbjcoefaaBytes
import Derived.Deep.RegionHeld3
import Derived.Deep.QuietTactic
import Derived.BigQuiet
import Derived.IntWalk
set_option linter.unusedVariables false
set_option linter.unusedSimpArgs false
namespace Go.Proofs.Ytfnkcdcbjcoefaa
open Go.RowKit

theorem hexB_fig : ∀ n : Fin 16, isFig (hexB n.val) = true ∧ hv (hexB n.val) = n.val := by decide
theorem hexB_hv {a : UInt8} (h : isFig a = true) : hexB (hv a) = a := by
  have h' := of_decide_eq_true h
  have hh : hv a = if a.toNat ≤ 57 then a.toNat - 48 else a.toNat - 87 := rfl
  apply UInt8.toNat_inj.1
  unfold hexB
  have := a.toNat_lt
  rcases h' with ⟨h1, h2⟩ | ⟨h1, h2⟩
  · rw [if_pos h2] at hh
    rw [if_pos (by omega)]
    simp
    omega
  · rw [if_neg (by omega)] at hh
    rw [if_neg (by omega)]
    simp
    omega
theorem hex_match (c a b : UInt8) : textB [c] = [a, b] ↔ isFig a = true ∧ isFig b = true ∧ c.toNat = 16 * hv a + hv b := by
  have e : textB [c] = [hexB (c.toNat / 16), hexB (c.toNat % 16)] := rfl
  have h1 := hexB_fig ⟨c.toNat / 16, by have := c.toNat_lt; omega⟩
  have h2 := hexB_fig ⟨c.toNat % 16, by omega⟩
  simp only at h1 h2
  rw [e]
  constructor
  · intro h
    simp only [List.cons.injEq, and_true] at h
    obtain ⟨rfl, rfl⟩ := h
    exact ⟨h1.1, h2.1, by omega⟩
  · intro ⟨ha, hb, hc⟩
    have := hv_lt ha
    have := hv_lt hb
    rw [show c.toNat / 16 = hv a from by omega, show c.toNat % 16 = hv b from by omega, hexB_hv ha, hexB_hv hb]

theorem toList_bytes (s : ByteArray) : s.toList = s.data.toList := by
  have h : ∀ n (s : ByteArray) i r, s.size - i = n → ByteArray.toList.loop s i r = r.reverse ++ s.data.toList.drop i := by
    intro n
    induction n with
    | zero =>
      intro s i r h
      unfold ByteArray.toList.loop
      rw [if_neg (by omega), List.drop_eq_nil_of_le (by rw [Array.length_toList]; show s.size ≤ i; omega), List.append_nil]
    | succ n ih =>
      intro s i r h
      unfold ByteArray.toList.loop
      rw [if_pos (by omega), ih s (i + 1) _ (by omega)]
      have hi : i < s.data.toList.length := by rw [Array.length_toList]; show i < s.size; omega
      rw [List.drop_eq_getElem_cons hi, List.reverse_cons, List.append_assoc]
      congr 2
      have : i < s.size := by omega
      simp [ByteArray.get!, getElem!_pos, this]
  exact (h _ s 0 [] rfl).trans (by simp)

theorem str_match (s : ByteArray) (c : UInt8) (j : Nat) (h : 2 * j + 2 ≤ s.size) :
    (({ data := (textB [c]).toArray } : ByteArray).toList == (s.extract (2 * (j : Int)).toNat (2 * (j : Int) + 2).toNat).toList) = decide (textB [c] = [s.data.toList.getD (2 * j) 0, s.data.toList.getD (2 * j + 1) 0]) := by
  rw [toList_bytes, toList_bytes, show (2 * (j : Int)).toNat = 2 * j from by omega, show (2 * (j : Int) + 2).toNat = 2 * j + 2 from by omega]
  have e : (s.extract (2 * j) (2 * j + 2)).data.toList = [s.data.toList.getD (2 * j) 0, s.data.toList.getD (2 * j + 1) 0] := by
    have hl : s.data.toList.length = s.size := by rw [Array.length_toList]; rfl
    rw [ByteArray.data_extract, Array.toList_extract]
    simp only [List.extract_eq_take_drop, show 2 * j + 2 - 2 * j = 2 from by omega]
    rw [List.drop_eq_getElem_cons (by omega), List.take_succ_cons, List.drop_eq_getElem_cons (by omega), List.take_succ_cons, List.take_zero]
    simp [List.getD_eq_getElem?_getD, List.getElem?_eq_getElem, hl, show 2 * j < s.size from by omega, show 2 * j + 1 < s.size from by omega]
  rw [e, Bool.beq_eq_decide_eq]

theorem out_match {c a b : UInt8} (h : textB [c] = [a, b]) : isFig a = true ∧ isFig b = true ∧ c = UInt8.ofNat (16 * hv a + hv b) := by
  obtain ⟨h1, h2, h3⟩ := (hex_match c a b).1 h
  refine ⟨h1, h2, ?_⟩
  rw [← h3]
  simp

theorem no_match {a b : UInt8} (h : ∀ c : Nat, c < 256 → textB [UInt8.ofNat c] ≠ [a, b]) : isFig a = false ∨ isFig b = false := by
  cases ha : isFig a with
  | false => exact .inl rfl
  | true =>
    cases hb : isFig b with
    | false => exact .inr rfl
    | true =>
      have h1 := hv_lt ha
      have h2 := hv_lt hb
      refine absurd ((hex_match _ a b).2 ⟨ha, hb, ?_⟩) (h (16 * hv a + hv b) (by omega))
      simp
      omega

set_option maxRecDepth 100000 in
set_option maxHeartbeats 1600000 in
theorem refBytes_any (s : ByteArray) (w : World) (hs : s.size ≤ 1000000) :
    Calls Try.prog 22 #[.string s] w (BY s w) := by
  have U := u8
  have hsz : s.data.toList.length = s.size := by rw [Array.length_toList]; rfl
  by_cases h1 : s.size % 2 = 0
  · have d1 : ((s.size : Int) % 2 == 1) = false := by simp; omega
    have H1 := Lib.hid h1
    obtain ⟨m, hm⟩ : ∃ m, s.size = 2 * m := ⟨s.size / 2, by omega⟩
    have hm1 : (s.size : Int) ≤ 2 * m := by omega
    have hm2 : (2 : Int) * m ≤ s.size := by omega
    have HM := Lib.hid hm
    clear h1 hm
    generalize hB : w.heap.size = B at *
    have HB := Lib.hid hB
    clear hB
    generalize hL : s.data.toList = L at *
    have HL := Lib.hid hL
    have HSZ := Lib.hid hsz
    clear hL hsz
    go_enter Try.func22, Try.ntmps22
    go_wp2
    go_loopw [4, 5, 6] (fun v i n wr => ∃ j : Nat, j ≤ m ∧ i = .int .i64 (2 * (j : Int)) ∧ Ow 5 wr B v (pairs (L.take (2 * j))) ∧ (L.take (2 * j)).all isFig = true ∧ Below B w wr) (fun _ i _ _ => s.size - (intOf i).toNat)
    case atStart => exact ⟨0, Nat.zero_le _, rfl, Ow.nil _ _ _, rfl, Below.refl _ _⟩
    case round =>
      obtain ⟨j, hj, rfl, hown, hall, hbel⟩ := hrel
      have HALL := Lib.hid hall
      clear hall
      have hBw : B ≤ wr.heap.size := by have := hbel.size; rw [← HB.out]; exact this
      by_cases hlt : j < m
      · have hi1 : (2 : Int) * j < s.size := by omega
        have hjn : (2 : Int) * j + 2 ≤ s.size := by omega
        go_wp2_with fail
        obtain ⟨wo, rfl⟩ : ∃ wo : World, wo = wr := ⟨_, rfl⟩
        go_loopw [6] (fun n wr => ∃ q : Nat, q ≤ 256 ∧ n = .int .i64 q ∧ (∀ c, c < q → textB [UInt8.ofNat c] ≠ [L.getD (2 * j) 0, L.getD (2 * j + 1) 0]) ∧ Kp wo wr) (fun n _ => 256 - (intOf n).toNat)
        case atStart => exact ⟨0, by omega, rfl, fun c hc => by omega, Kp.refl _⟩
        case round =>
          obtain ⟨q, hq, rfl, hno, hkp⟩ := hrel
          by_cases hq2 : q < 256
          · have d2 : decide ((q : Int) < 256) = true := by simp; omega
            have HNO := Lib.hid hno
            clear hno
            have hbox : (q : Int) % 256 = ((UInt8.ofNat q).toNat : Int) := by simp
            obtain ⟨cq, hcq⟩ : ∃ cq, cq = UInt8.ofNat q := ⟨_, rfl⟩
            have HCQ := Lib.hid hcq
            have htx : ∀ (v : Value) (W : World), Rd W v [cq] → Calls Try.prog 23 #[v] W fun e w' => e = .returned (.string ⟨(textB [cq]).toArray⟩) ∧ Kp W w' := fun v W h => refText_any v [cq] W h (by simp)
            generalize htt : (textB [cq]).toArray = TT at *
            have HTT := Lib.hid htt
            have HTX := Lib.hid htx
            have hq3 : (q : Int) % 256 = q := by omega
            have HBX : Hid ((q : Int) = (cq.toNat : Int)) := by rw [hcq]; rw [hq3] at hbox; exact hbox
            clear htx htt hcq hbox hq3
            have w1 : IntKind.u8.wrap (q : Int) = q := IntWalk.u8_in _ (by omega)
            have w2 : IntKind.i64.wrap (2 * (j : Int) + 2) = 2 * j + 2 := IntWalk.i64_in _ (by omega)
            have w3 : (0 : Int) ≤ 2 * j := by omega
            have w4 : (2 : Int) * j ≤ 2 * j + 2 := by omega
            have hmt : (({ data := TT } : ByteArray).toList == (s.extract (2 * (j : Int)).toNat (2 * (j : Int) + 2).toNat).toList) = decide (textB [cq] = [L.getD (2 * j) 0, L.getD (2 * j + 1) 0]) := by
              rw [← HTT.out, ← HL.out]
              exact str_match s cq j (by omega)
            have hout := out_match (c := cq) (a := L.getD (2 * j) 0) (b := L.getD (2 * j + 1) 0)
            by_cases hmm : textB [cq] = [L.getD (2 * j) 0, L.getD (2 * j + 1) 0]
            · rw [decide_eq_true hmm] at hmt
              have HM2 := Lib.hid hmm
              have d3 : ((q : Int) == 256) = false := by simp; omega
              clear hmm
              go_wp2_with fail
              go_region_held3 (fun _ => True) (exact trivial) (first | (go_at_call 23; refine (HTX.out _ _ ?_).mono ?_; (first | exact Rd.box _ _ _ _ HBX.out | exact (Rd.box wr _ _ _ HBX.out).kp ((Kp.refl _).drew)); rintro e w1 ⟨rfl, hk1⟩))
              have hkw : Kp wo w1 := ((hkp.alloc _).drew).trans hk1
              have hbel2 : Below B w w1 := hbel.trans (hkw.mono hBw)
              have hown2 := hown.kp hkw
              have hBw2 : B ≤ w1.heap.size := Nat.le_trans hBw hkw.size
              have hpl := pairs_length (L.take (2 * j))
              have hpl2 : (L.take (2 * j)).length ≤ 1000000 := by simp; omega
              clear hk1 hkp hown hbel hmt hout
              go_wp2_with (at_builtin; refine wpList_append_ow U rfl _ _ rfl B _ _ rfl (hown2.kp ((Kp.refl _).alloc _)) _ [cq] rfl ?c1 ?c2 ?c3 ?_)
              case c1 => exact Rd.box _ _ _ _ HBX.out
              case c2 => simp only [List.length_cons, List.length_nil]; omega
              case c3 => simp; omega
              intro v' w2 hown' hgrow _
              have hb3 : Below B w w2 := Below.grown' (hbel2.alloc (by omega) _) hgrow (by simp; omega) (hown2.kp ((Kp.refl _).alloc _))
              clear hgrow
              go_wp2
              go_roundw
              case rel =>
                obtain ⟨f1, f2, hc⟩ := out_match HM2.out
                have hl1 : 2 * j + 1 < L.length := by rw [HSZ.out, HM.out]; omega
                refine ⟨j + 1, by omega, congrArg _ (by omega), ?_, ?_, hb3⟩
                · rw [show 2 * (j + 1) = 2 * j + 2 from by omega, pairs_two L (2 * j) hl1 (by omega), ← hc]
                  exact hown'
                · rw [show 2 * (j + 1) = 2 * j + 1 + 1 from by omega, all_take L (2 * j + 1) hl1, all_take L (2 * j) (by omega), HALL.out, f1, f2]
                  rfl
              case measure => simp [intOf]; omega
            · rw [decide_eq_false hmm] at hmt
              have HM2 := Lib.hid hmm
              clear hmm
              go_wp2_with fail
              go_region_held3 (fun _ => True) (exact trivial) (first | (go_at_call 23; refine (HTX.out _ _ ?_).mono ?_; (first | exact Rd.box _ _ _ _ HBX.out | exact (Rd.box wr _ _ _ HBX.out).kp ((Kp.refl _).drew)); rintro e w1 ⟨rfl, hk1⟩))
              go_wp2_with fail
              go_roundw
              case rel =>
                refine ⟨q + 1, by omega, by go_num, fun c hc => ?_, ((hkp.alloc _).drew).trans hk1⟩
                rcases Nat.lt_or_ge c q with h | h
                · exact HNO.out c h
                · have : c = q := by omega
                  subst this
                  rw [← HCQ.out]
                  exact HM2.out
              case measure => simp [intOf]; omega
          · have d2 : decide ((q : Int) < 256) = false := by simp; omega
            have d3 : ((q : Int) == 256) = true := by simp; omega
            have hq256 : q = 256 := by omega
            have E : Hid (byE L = 2 ∧ byB L = []) := by
              rw [hq256] at hno
              have hl1 : 2 * j + 1 < L.length := by rw [HSZ.out, HM.out]; omega
              rcases no_match hno with h | h
              · exact by_no (not_all (by omega) h)
              · exact by_no (not_all hl1 h)
            clear hno hq256
            go_wp2_with fail
            go_quiet (fail)
            go_wp2_with fail
            go_ret2
            obtain ⟨e1, e2⟩ := E.out
            rw [BY, HL.out, e1, e2]
            exact ⟨_, rfl, Ow.nil _ _ _, by unfold Kp; rw [HB.out]; exact hbel.trans ((hkp.drewN _).mono hBw)⟩
      · have hjm : j = m := by omega
        have hlen : L.take (2 * j) = L := List.take_of_length_le (by rw [HSZ.out, HM.out]; omega)
        have E := Lib.hid (by_yes (s := L) ⟨by rw [HSZ.out]; exact H1.out, by rw [← hlen]; exact HALL.out⟩)
        rw [hlen] at hown
        clear hlen
        go_wp2_with fail
        go_ret2
        obtain ⟨e1, e2⟩ := E.out
        rw [BY, HL.out, e1, e2]
        exact ⟨_, rfl, by rw [HB.out]; exact hown, by unfold Kp; rw [HB.out]; exact hbel⟩
  · obtain ⟨e1, e2⟩ := by_no (s := s.data.toList) (by rw [hsz]; omega)
    have E1 := Lib.hid e1
    have E2 := Lib.hid e2
    clear e1 e2
    have d2 : ((s.size : Int) % 2 == 1) = true := by simp; omega
    go_enter Try.func22, Try.ntmps22
    go_wp2_with fail
    go_ret2
    exact ⟨_, by rw [E1.out]; rfl, by rw [E2.out]; exact Ow.nil _ _ _, Kp.refl _⟩
end Go.Proofs.Ytfnkcdcbjcoefaa
