/- HashTells. -/
import Derived.Test.YtobldbodafaajaaGreatDoorShownHash
import Derived.Test.YtobldbodafaajaaGreatDoorRefHashF
import Derived.Test.YtobldbodafaajaaGreatDoorRefHashE
set_option linter.unusedVariables false
set_option linter.unusedSimpArgs false
namespace Go.Proofs.YtobldbodafaajaaGreatDoor
open Go.RowKit

/-- What every walk of layer 10 has behind May. -/
theorem may10 {t : List Nod} (h : smallP t 40 ∧ RightP t) : ∃ K, RightK t K ∧ TidyT t K := by
  obtain ⟨h1, K, h2⟩ := h
  exact ⟨K, h2, h2.tidy h1⟩
theorem same10_yes (W : World) (u v : Value) (l : List UInt8) (hu : Rd W u l) (hv : Rd W v l) : Calls Tryz.prog 12 #[u, v] W fun e w' => e = .returned (.bool true) ∧ W = w' := by
  have := same_any u v l l W hu hv
  rwa [decide_eq_true rfl] at this
set_option maxRecDepth 100000 in
set_option maxHeartbeats 4000000 in
theorem hashTells_walk (vt : Value) (t : List Nod) (x side : Int) (w : World) (ht : NL w vt t) (hx : -9223372036854775808 ≤ x ∧ x ≤ 9223372036854775807) (hs : -9223372036854775808 ≤ side ∧ side ≤ 9223372036854775807) (hTAB : Tab w) :
    Calls Tryz.prog 3 #[vt, .int .i64 x, .int .i64 side] w (Yes w) := by
  have HTAB := Lib.hid hTAB
  clear hTAB
  have HSH := Lib.hid (shownHash_any w HTAB.out)
  have HMAY := Lib.hid (fun W (hW : Kp w W) => refMayT_any vt t 40 W (ht.kp hW) (by omega))
  have HT1 := Lib.hid (fun W (hW : Kp w W) K (hr : RightK t K) (hd : TidyT t K) => hashTree_any vt t K x W hd hr (ht.kp hW) hx (HTAB.out.kp hW))
  have HT2 := Lib.hid (fun W (hW : Kp w W) K (hd : TidyT t K) => refTree10_any vt t K x W hd (ht.kp hW))
  have HA1 := Lib.hid (fun W (hW : Kp w W) K (hr : RightK t K) (hd : TidyT t K) => hashAbove_any vt t K x side W hd hr (ht.kp hW) hx hs (HTAB.out.kp hW))
  have HA2 := Lib.hid (fun W (hW : Kp w W) K (hd : TidyT t K) => refAbove_any vt t K x side W hd (ht.kp hW))
  have HN1 := Lib.hid (fun W (hW : Kp w W) k K (hd : TidyT t K) v (hv : NV W v (ats t k)) => hashNode_any v (ats t k) W hv (hd.node k) (HTAB.out.kp hW))
  have HN2 := Lib.hid (fun W k K (hd : TidyT t K) v (hv : NV W v (ats t k)) => refNode10_any v (ats t k) W hv (hd.node k))
  have HLN : Hid (∀ K, TidyT t K → t.length ≤ 100000) := fun K h => by have := h.len; have := p2_le h.le; have := p2_succ K; omega
  have HU := Lib.hid ht
  obtain ⟨a, c, rfl, p1, s1⟩ := ht.shape
  unfold maxLen at s1
  obtain ⟨N, hN⟩ : ∃ N, t.length = N := ⟨_, rfl⟩
  rw [hN] at HMAY HT1 HT2 HA1 HA2 HU HLN p1 ⊢
  generalize treE t x = E1 at *
  generalize treV t x = V1 at *
  generalize aboE t x side = E2 at *
  generalize aboV t x side = V2 at *
  clear ht hx hs hN
  go_enter Tryz.func3, Tryz.ntmps3
  go_wp2_with fail
  refine HSH.out.mono ?_
  rintro _ w0 ⟨rfl, k0⟩
  have KK := Lib.hid k0
  clear k0
  go_wp2_with fail
  refine (HMAY.out _ KK.out).mono ?_
  rintro _ w1 ⟨⟨bA, rfl, hA⟩, k1⟩
  have KK := Lib.hid (KK.out.trans k1)
  clear k1
  cases bA
  · clear hA
    go_wp2_with fail
    go_ret
    exact ⟨rfl, KK.out⟩
  · obtain ⟨K, hr, hd⟩ := may10 (hA.1 rfl)
    have HRD := Lib.hid (And.intro hr hd)
    have hln := HLN.out K hd
    clear hA hr hd
    go_wp2_with fail
    refine (HT1.out _ KK.out K HRD.out.1 HRD.out.2).mono ?_
    rintro _ w2 ⟨⟨r1, rfl, q1⟩, k2⟩
    have KK := Lib.hid (KK.out.trans k2)
    have A1 := Lib.hid q1
    clear k2 q1
    go_wp2_with fail
    refine (HT2.out _ KK.out K HRD.out.2).mono ?_
    rintro _ w3 ⟨⟨r2, rfl, q2⟩, k3⟩
    have KK := Lib.hid (KK.out.trans k3)
    have A1 := Lib.hid (A1.out.kp k3)
    have A2 := Lib.hid q2
    clear k3 q2
    go_wp2_with fail
    refine (HA1.out _ KK.out K HRD.out.1 HRD.out.2).mono ?_
    rintro _ w4 ⟨⟨r3, rfl, q3⟩, k4⟩
    have KK := Lib.hid (KK.out.trans k4)
    have A1 := Lib.hid (A1.out.kp k4)
    have A2 := Lib.hid (A2.out.kp k4)
    have A3 := Lib.hid q3
    clear k4 q3
    go_wp2_with fail
    refine (HA2.out _ KK.out K HRD.out.2).mono ?_
    rintro _ w5 ⟨⟨r4, rfl, q4⟩, k5⟩
    have KK := Lib.hid (KK.out.trans k5)
    have A1 := Lib.hid (A1.out.kp k5)
    have A2 := Lib.hid (A2.out.kp k5)
    have A3 := Lib.hid (A3.out.kp k5)
    have A4 := Lib.hid q4
    have hb1 : (E1 != E1) = false := bne_eq_false_iff_eq.2 rfl
    have hb2 : (E2 != E2) = false := bne_eq_false_iff_eq.2 rfl
    clear k5 q4 HT1 HT2 HA1 HA2
    go_wp2_with fail
    refine (same10_yes _ _ _ _ A1.out A2.out).mono ?_
    rintro _ _ ⟨rfl, rfl⟩
    go_wp2_with fail
    refine (same10_yes _ _ _ _ A3.out A4.out).mono ?_
    rintro _ _ ⟨rfl, rfl⟩
    clear A1 A2 A3 A4
    go_wp2_with fail
    have HND : Hid (∀ k, k < N → ∃ b off p u q, a = some ⟨b, off, none⟩ ∧ ∀ W, Kp w W → NAt W b (off + k * 5) (ats t k) p u q) := fun k hk => by
      obtain ⟨b, off, rfl, _, hc⟩ := HU.out.at k hk
      obtain ⟨p, u, q, hn⟩ := hc k hk
      exact ⟨b, off, p, u, q, rfl, fun W hW => hn.kp hW⟩
    go_loopw [16] (fun x wr => ∃ k : Nat, k ≤ N ∧ x = .int .i64 (k : Int) ∧ Kp w wr) (fun x _ => (N - (intOf x).toNat))
    case atStart => exact ⟨0, Nat.zero_le _, rfl, KK.out⟩
    case round =>
      obtain ⟨k, hk, rfl, hkp⟩ := hrel
      have KR := Lib.hid hkp
      by_cases hlt : k < N
      · obtain ⟨b, off, p, u, q, rfl, hn⟩ := HND.out k hlt
        have i1 : IntKind.i64.wrap ((k : Int) + 1) = (k : Int) + 1 := IntWalk.i64_in _ (by omega)
        have i3 : (k : Int) < (N : Int) := by omega
        obtain ⟨xp, np, cp, rfl⟩ := rd_slH (hn w (Kp.refl _)).2.pub
        obtain ⟨xu, nu, cu, rfl⟩ := (hn w (Kp.refl _)).2.un.sl
        obtain ⟨xh, nh, ch, rfl⟩ := rd_slH (hn w (Kp.refl _)).2.hash
        have HC : Hid (∀ W, Kp w W → W.cell? ⟨b, off + k * 5, none⟩ = some (.int .i64 (ats t k).kind) ∧ W.cell? ⟨b, off + k * 5 + 1, none⟩ = some (.int .i64 (ats t k).name) ∧ W.cell? ⟨b, off + k * 5 + 2, none⟩ = some (.slice xp np cp) ∧ W.cell? ⟨b, off + k * 5 + 3, none⟩ = some (.slice xu nu cu) ∧ W.cell? ⟨b, off + k * 5 + 4, none⟩ = some (.slice xh nh ch)) := fun W hW => ⟨(hn W hW).kind, (hn W hW).name, (hn W hW).pubC, (hn W hW).unC, (hn W hW).hashC⟩
        have HNV : Hid (∀ W, Kp w W → NV W (.agg #[.int .i64 (ats t k).kind, .int .i64 (ats t k).name, .slice xp np cp, .slice xu nu cu, .slice xh nh ch]) (ats t k)) := fun W hW => ⟨_, _, _, rfl, (hn W hW).2⟩
        have HNA := Lib.hid (fun W hW => HN1.out W hW k K HRD.out.2 _ (HNV.out W hW))
        have HNB := Lib.hid (fun W hW => HN2.out W k K HRD.out.2 _ (HNV.out W hW))
        clear hn HNV HN1 HN2 HND hkp HSH HMAY
        generalize (ats t k).kind = KD at *
        generalize (ats t k).name = NM at *
        generalize nodeB (ats t k) = NB at *
        have S0 := Lib.hid (HC.out _ KR.out)
        have S1 := Lib.hid (HC.out _ KR.out.drew)
        have KD1 : Hid (Kp w wr.drew) := KR.out.drew
        go_wp2_with fail
        go_region_held3 (fun W => W.cell? ⟨b, off + k * 5, none⟩ = some (.int .i64 KD) ∧ W.cell? ⟨b, off + k * 5 + 1, none⟩ = some (.int .i64 NM) ∧ W.cell? ⟨b, off + k * 5 + 2, none⟩ = some (.slice xp np cp) ∧ W.cell? ⟨b, off + k * 5 + 3, none⟩ = some (.slice xu nu cu) ∧ W.cell? ⟨b, off + k * 5 + 4, none⟩ = some (.slice xh nh ch))
          (first | with_reducible exact S1.out | with_reducible exact S7.out | with_reducible exact S8.out)
          (first
            | (go_at_call 12; refine (same10_yes _ _ _ _ (o7.kp k8) o8).mono ?_; rintro _ _ ⟨rfl, rfl⟩)
            | (go_at_call 14; refine (HNB.out _ K7.out).mono ?_; rintro _ w8 ⟨⟨r8, rfl, o8w⟩, k8⟩; have o8 := o8w.rd; have K8 := Lib.hid (K7.out.trans k8); have S8 := Lib.hid (HC.out _ K8.out))
            | (go_at_call 13; refine (HNA.out _ KD1.out).mono ?_; rintro _ w7 ⟨⟨r7, rfl, o7⟩, k7⟩; have K7 := Lib.hid (KD1.out.trans k7); have S7 := Lib.hid (HC.out _ K7.out)))
        have KE : Hid (Kp w w8) := K8.out
        clear S0 S1 S7 S8 HC HNA HNB o7 o8 o8w k8 KD1 K7 K8
        go_wp2_with fail
        go_roundw
        case rel => exact ⟨k + 1, by omega, by go_num, KE.out⟩
        case measure => simp [intOf]; omega
      · obtain rfl : k = N := by omega
        have hle : ¬ (k : Int) < (k : Int) := by omega
        clear HND HN1 HN2 hkp HSH HMAY
        go_wp2_with fail
        go_ret
        exact ⟨rfl, KR.out⟩
end Go.Proofs.YtobldbodafaajaaGreatDoor
