/- SigBack, SigWrapped (written by gen/sig1.py). -/
import Derived.Test.YtdcbljfacmidjaaSigOwn
import Derived.Test.YtdcbljfacmidjaaShownSig
import Derived.Test.YtdcbljfacmidjaaRefSig2
set_option linter.unusedVariables false
set_option linter.unusedSimpArgs false
namespace Go.Proofs.Ytdcbljfacmidjaa
open Go.RowKit

theorem same_yes7b (u v : Value) (l : List UInt8) (w : World) (h : Rd w u l) (h' : Rd w v l) : Calls Try.prog 12 #[u, v] w fun e w' => e = .returned (.bool true) ∧ w = w' := by
  have := same_any u v l l w h h'
  rwa [decide_eq_true rfl] at this
theorem openE_short7 {key nonce aad b : List UInt8} (h : okK key nonce) (hb : b.length < 32) : openE key nonce aad b = 3 := by
  unfold openE
  rw [if_pos h, if_pos hb]

set_option maxRecDepth 100000 in
set_option maxHeartbeats 8000000 in
theorem sigBack_walk (va vb vd ve : Value) (s : ByteArray) (la lb ld le : List UInt8) (w : World) (ha : Rd w va la) (hb : Rd w vb lb) (hd : Rd w vd ld) (he : Rd w ve le) :
    Calls Try.prog 4 #[.agg #[va, vb, .string s, vd, ve]] w (Yes w) := by
  obtain ⟨a1, c1, rfl, p1, s1⟩ := ha.shape
  obtain ⟨a2, c2, rfl, p2, s2⟩ := hb.shape
  obtain ⟨a4, c4, rfl, p4, s4⟩ := hd.shape
  obtain ⟨a5, c5, rfl, p5, s5⟩ := he.shape
  by_cases h0 : la.length = 32
  rotate_left
  · have q1 : ((la.length : Int) == 32) = false := beq_eq_false_iff_ne.2 (by omega)
    have q2 : ¬ (la.length : Int) = 32 := by omega
    go_enter Try.func4, Try.ntmps4
    go_wp2_with fail
    refine (shownSig_any _).mono ?_
    rintro e w1 ⟨rfl, k1⟩
    have k1 := ((Kp.refl w).alloc _).trans k1
    go_wp2_with fail
    go_ret
    exact ⟨rfl, k1⟩
  by_cases h1 : lb.length = 32
  rotate_left
  · have q1 : ((lb.length : Int) == 32) = false := beq_eq_false_iff_ne.2 (by omega)
    have q2 : ¬ (lb.length : Int) = 32 := by omega
    rw [h0]
    go_enter Try.func4, Try.ntmps4
    go_wp2_with fail
    refine (shownSig_any _).mono ?_
    rintro e w1 ⟨rfl, k1⟩
    have k1 := ((Kp.refl w).alloc _).trans k1
    go_wp2_with fail
    go_ret
    exact ⟨rfl, k1⟩
  by_cases h2 : s.size ≤ 100
  rotate_left
  · have q1 : 100 < (s.size : Int) := by omega
    rw [h0]
    rw [h1]
    go_enter Try.func4, Try.ntmps4
    go_wp2_with fail
    refine (shownSig_any _).mono ?_
    rintro e w1 ⟨rfl, k1⟩
    have k1 := ((Kp.refl w).alloc _).trans k1
    go_wp2_with fail
    go_ret
    exact ⟨rfl, k1⟩
  by_cases h3 : ld.length ≤ 100
  rotate_left
  · have q1 : 100 < (ld.length : Int) := by omega
    rw [h0]
    rw [h1]
    have r2 : ¬ 100 < (s.size : Int) := by omega
    go_enter Try.func4, Try.ntmps4
    go_wp2_with fail
    refine (shownSig_any _).mono ?_
    rintro e w1 ⟨rfl, k1⟩
    have k1 := ((Kp.refl w).alloc _).trans k1
    go_wp2_with fail
    go_ret
    exact ⟨rfl, k1⟩
  by_cases h4 : le.length ≤ 200
  rotate_left
  · have q1 : 200 < (le.length : Int) := by omega
    rw [h0]
    rw [h1]
    have r2 : ¬ 100 < (s.size : Int) := by omega
    have r3 : ¬ 100 < (ld.length : Int) := by omega
    go_enter Try.func4, Try.ntmps4
    go_wp2_with fail
    refine (shownSig_any _).mono ?_
    rintro e w1 ⟨rfl, k1⟩
    have k1 := ((Kp.refl w).alloc _).trans k1
    go_wp2_with fail
    go_ret
    exact ⟨rfl, k1⟩
  obtain ⟨P, hP⟩ : ∃ P, pubB la = P := ⟨_, rfl⟩
  have hPL : P.length = 32 := by rw [← hP]; exact pubB_length _
  obtain ⟨S, hS⟩ : ∃ S, sigB P s.data.toList le = S := ⟨_, rfl⟩
  have hSL : S.length = 32 := by rw [← hS]; exact sigB_length _ _ _
  obtain ⟨G, hG⟩ : ∃ G, pubB lb = G := ⟨_, rfl⟩
  have hGL : G.length = 32 := by rw [← hG]; exact pubB_length _
  obtain ⟨X, hX⟩ : ∃ X, wrapped P G ld le = X := ⟨_, rfl⟩
  have hXL : X.length = le.length + 32 := by rw [← hX]; exact wrapped_length _ _ _ _
  obtain ⟨u1, u2⟩ := un_wrapped (seed := la) (half := G) ld le h0 hGL
  rw [hP, hX] at u1 u2
  have H1 : Hid (∀ W (_ : Kp w W), Calls Try.prog 8 #[.slice a1 la.length c1] W fun e w' => (∃ r, e = .returned (.tuple #[r, .int .i64 0]) ∧ Rd w' r (P)) ∧ Kp W w') := fun W hW => by
    have := sigPublic_any _ la W (ha.kp hW)
    rwa [(pub_yes h0).1, (pub_yes h0).2, hP] at this
  have H2 : Hid (∀ W (_ : Kp w W), Calls Try.prog 10 #[.slice a1 la.length c1, .string s, .slice a5 le.length c5] W fun e w' => (∃ r, e = .returned (.tuple #[r, .int .i64 0]) ∧ Rd w' r (S)) ∧ Kp W w') := fun W hW => by
    have := sigSign_any _ s _ la le W (ha.kp hW) (he.kp hW) (by omega) (by omega)
    rwa [(pub_yes h0).1, show signR la s.data.toList le = sigB (pubB la) s.data.toList le from if_pos h0, hP, hS] at this
  have H3 : Hid (∀ W u (_ : Kp w W) (_ : Rd W u P), Calls Try.prog 15 #[u, .slice a2 lb.length c2, .slice a4 ld.length c4, .slice a5 le.length c5] W fun e w' => (∃ x y, e = .returned (.tuple #[x, y, .int .i64 0]) ∧ Rd w' x G ∧ Rd w' y X) ∧ Kp W w') := fun W u hW hu => by
    have := sigWrap_any u _ _ _ P lb ld le W hu (hb.kp hW) (hd.kp hW) (he.kp hW) (by omega) (by omega)
    obtain ⟨e1, e2, e3⟩ := wrap_yes (pub := P) (once := lb) ld le ⟨h1, hPL⟩
    rwa [e1, e2, e3, hG, hX] at this
  have H4 : Hid (∀ W v x (_ : Kp w W) (_ : Rd W v G) (_ : Rd W x X), Calls Try.prog 16 #[.slice a1 la.length c1, v, .slice a4 ld.length c4, x] W fun e w' => (∃ r, e = .returned (.tuple #[r, .int .i64 0]) ∧ Rd w' r (le)) ∧ Kp W w') := fun W v x hW hv hx => by
    have := sigUnwrap_any _ v _ x la G ld X W (ha.kp hW) hv (hd.kp hW) hx (by omega) (by omega)
    rwa [u1, u2] at this
  have H5 : Hid (∀ W (_ : Kp w W), Calls Try.prog 8 #[.slice a2 lb.length c2] W fun e w' => (∃ r, e = .returned (.tuple #[r, .int .i64 0]) ∧ Rd w' r (G)) ∧ Kp W w') := fun W hW => by
    have := sigPublic_any _ lb W (hb.kp hW)
    rwa [(pub_yes h1).1, (pub_yes h1).2, hG] at this
  have H6 : Hid (∀ W u x (_ : Kp w W) (_ : Rd W u P) (_ : Rd W x S), Calls Try.prog 13 #[u, .string s, .slice a5 le.length c5, x] W fun e w' => e = .returned (.int .i64 0) ∧ Kp W w') := fun W u x hW hu hx => by
    have := sigVerify_any u s _ x P le S W hu (he.kp hW) hx (by omega) (by omega)
    rwa [show verE P s.data.toList le S = 0 from by unfold verE; rw [if_pos hPL]; exact if_pos hS] at this
  have HE := Lib.hid he
  have HL := Lib.hid (And.intro hPL (And.intro hGL hXL))
  have i1 : IntKind.i64.wrap ((le.length : Int) + 32) = (le.length : Int) + 32 := IntWalk.i64_in _ (by omega)
  have i2 : ((le.length + 32 : Nat) : Int) = (le.length : Int) + 32 := by omega
  rw [h0] at H1 H2 H4 ⊢
  rw [h1] at H3 H5 ⊢
  have r2 : ¬ 100 < (s.size : Int) := by omega
  have r3 : ¬ 100 < (ld.length : Int) := by omega
  have r4 : ¬ 200 < (le.length : Int) := by omega
  clear ha hb hd he h0 h1 h2 h3 h4 hP hPL hS hSL hG hGL hX hXL u1 u2
  go_enter Try.func4, Try.ntmps4
  go_wp2_with fail
  refine (shownSig_any _).mono ?_
  rintro e w1 ⟨rfl, k1⟩
  have k1 := ((Kp.refl w).alloc _).trans k1
  have K1 := Lib.hid k1
  clear k1
  go_wp2_with fail
  refine (H1.out _ K1.out).mono ?_
  rintro _ w2 ⟨⟨p, rfl, s1⟩, k2⟩
  have RP := Lib.hid s1
  have K2 := Lib.hid (K1.out.trans k2)
  clear k2 s1
  go_wp2_with fail
  refine (H2.out _ K2.out).mono ?_
  rintro _ w3 ⟨⟨x, rfl, s1⟩, k3⟩
  have RP := Lib.hid (RP.out.kp k3)
  have RS := Lib.hid s1
  have K3 := Lib.hid (K2.out.trans k3)
  clear k3 s1
  go_wp2_with fail
  refine (H3.out _ _ K3.out RP.out).mono ?_
  rintro _ w4 ⟨⟨h, x, rfl, s1, s2⟩, k4⟩
  obtain ⟨ax, cx, rfl, _, _⟩ := s2.shape
  rw [HL.out.2.2] at s2 ⊢
  have RP := Lib.hid (RP.out.kp k4)
  have RS := Lib.hid (RS.out.kp k4)
  have RG := Lib.hid s1
  have RX := Lib.hid s2
  have K4 := Lib.hid (K3.out.trans k4)
  clear k4 s1 s2
  go_wp2_with fail
  refine (H4.out _ _ _ K4.out RG.out RX.out).mono ?_
  rintro _ w5 ⟨⟨y, rfl, s1⟩, k5⟩
  have RP := Lib.hid (RP.out.kp k5)
  have RS := Lib.hid (RS.out.kp k5)
  have RG := Lib.hid (RG.out.kp k5)
  have RY := Lib.hid s1
  have K5 := Lib.hid (K4.out.trans k5)
  clear k5 s1
  go_wp2_with fail
  refine (H5.out _ K5.out).mono ?_
  rintro _ w6 ⟨⟨o, rfl, s1⟩, k6⟩
  have RP := Lib.hid (RP.out.kp k6)
  have RS := Lib.hid (RS.out.kp k6)
  have RG := Lib.hid (RG.out.kp k6)
  have RY := Lib.hid (RY.out.kp k6)
  have RO := Lib.hid s1
  have K6 := Lib.hid (K5.out.trans k6)
  clear k6 s1
  go_wp2_with fail
  refine (H6.out _ _ _ K6.out RP.out RS.out).mono ?_
  rintro _ w7 ⟨rfl, k7⟩
  have RG := Lib.hid (RG.out.kp k7)
  have RY := Lib.hid (RY.out.kp k7)
  have RO := Lib.hid (RO.out.kp k7)
  have K7 := Lib.hid (K6.out.trans k7)
  clear k7 
  go_wp2_with fail
  refine (same_yes7b _ _ _ w7 RY.out (HE.out.kp K7.out)).mono ?_
  rintro _ _ ⟨rfl, rfl⟩
  go_wp2_with fail
  refine (same_yes7b _ _ _ w7 RG.out RO.out).mono ?_
  rintro _ _ ⟨rfl, rfl⟩
  go_wp2_with fail
  go_ret
  exact ⟨rfl, K7.out⟩

set_option maxRecDepth 100000 in
set_option maxHeartbeats 8000000 in
theorem sigWrapped_walk (va vb vc vd : Value) (n : Nat) (la lb lc ld : List UInt8) (w : World) (ha : Rd w va la) (hb : Rd w vb lb) (hc : Rd w vc lc) (hd : Rd w vd ld) (hn : (n : Int) ≤ 255) :
    Calls Try.prog 6 #[.agg #[va, vb, vc, vd, .int .u8 (n : Int)]] w (Yes w) := by
  obtain ⟨a1, c1, rfl, p1, s1⟩ := ha.shape
  obtain ⟨a2, c2, rfl, p2, s2⟩ := hb.shape
  obtain ⟨a3, c3, rfl, p3, s3⟩ := hc.shape
  obtain ⟨a4, c4, rfl, p4, s4⟩ := hd.shape
  by_cases h0 : la.length = 32
  rotate_left
  · have q1 : ((la.length : Int) == 32) = false := beq_eq_false_iff_ne.2 (by omega)
    have q2 : ¬ (la.length : Int) = 32 := by omega
    go_enter Try.func6, Try.ntmps6
    go_wp2_with fail
    refine (shownSig_any _).mono ?_
    rintro e w1 ⟨rfl, k1⟩
    have k1 := ((Kp.refl w).alloc _).trans k1
    go_wp2_with fail
    go_ret
    exact ⟨rfl, k1⟩
  by_cases h1 : lb.length = 32
  rotate_left
  · have q1 : ((lb.length : Int) == 32) = false := beq_eq_false_iff_ne.2 (by omega)
    have q2 : ¬ (lb.length : Int) = 32 := by omega
    rw [h0]
    go_enter Try.func6, Try.ntmps6
    go_wp2_with fail
    refine (shownSig_any _).mono ?_
    rintro e w1 ⟨rfl, k1⟩
    have k1 := ((Kp.refl w).alloc _).trans k1
    go_wp2_with fail
    go_ret
    exact ⟨rfl, k1⟩
  by_cases h2 : lc.length ≤ 200
  rotate_left
  · have q1 : 200 < (lc.length : Int) := by omega
    rw [h0]
    rw [h1]
    go_enter Try.func6, Try.ntmps6
    go_wp2_with fail
    refine (shownSig_any _).mono ?_
    rintro e w1 ⟨rfl, k1⟩
    have k1 := ((Kp.refl w).alloc _).trans k1
    go_wp2_with fail
    go_ret
    exact ⟨rfl, k1⟩
  by_cases h3 : ld.length ≤ 200
  rotate_left
  · have q1 : 200 < (ld.length : Int) := by omega
    rw [h0]
    rw [h1]
    have r2 : ¬ 200 < (lc.length : Int) := by omega
    go_enter Try.func6, Try.ntmps6
    go_wp2_with fail
    refine (shownSig_any _).mono ?_
    rintro e w1 ⟨rfl, k1⟩
    have k1 := ((Kp.refl w).alloc _).trans k1
    go_wp2_with fail
    go_ret
    exact ⟨rfl, k1⟩
  obtain ⟨P, hP⟩ : ∃ P, pubB la = P := ⟨_, rfl⟩
  have hPL : P.length = 32 := by rw [← hP]; exact pubB_length _
  obtain ⟨G, hG⟩ : ∃ G, pubB lb = G := ⟨_, rfl⟩
  have hGL : G.length = 32 := by rw [← hG]; exact pubB_length _
  obtain ⟨X, hX⟩ : ∃ X, wrapped P G lc lc = X := ⟨_, rfl⟩
  have hXL : X.length = lc.length + 32 := by rw [← hX]; exact wrapped_length _ _ _ _
  obtain ⟨Y, hY⟩ : ∃ Y, wrapped P G ld ld = Y := ⟨_, rfl⟩
  have hYL : Y.length = ld.length + 32 := by rw [← hY]; exact wrapped_length _ _ _ _
  obtain ⟨k, hk⟩ : ∃ k, n % 32 = k := ⟨_, rfl⟩
  have hk32 : k < 32 := by omega
  obtain ⟨e1, e2, e3⟩ := wrap_yes (pub := P) (once := lb) lc lc ⟨h1, hPL⟩
  obtain ⟨f1, f2, f3⟩ := wrap_yes (pub := P) (once := lb) ld ld ⟨h1, hPL⟩
  have HF : Hid (∀ W u l (_ : Rd W u l) (_ : l.length = 32), Calls Try.prog 19 #[u] W fun e w' => (∃ r, e = .returned r ∧ Rd w' r (pubB l)) ∧ Kp W w') := fun W u l hu hl => by
    have := refHalf_any u l W hu
    rwa [(pub_yes hl).2] at this
  have H1 : Hid (∀ W u (_ : Kp w W) (_ : Rd W u P), Calls Try.prog 15 #[u, .slice a2 lb.length c2, .slice a3 lc.length c3, .slice a3 lc.length c3] W fun e w' => (∃ x y, e = .returned (.tuple #[x, y, .int .i64 0]) ∧ Rd w' x G ∧ Rd w' y X) ∧ Kp W w') := fun W u hW hu => by
    have := sigWrap_any u _ _ _ P lb lc lc W hu (hb.kp hW) (hc.kp hW) (hc.kp hW) (by omega) (by omega)
    rwa [e1, e2, e3, hG, hX] at this
  have H2 : Hid (∀ W u (_ : Kp w W) (_ : Rd W u P), Calls Try.prog 15 #[u, .slice a2 lb.length c2, .slice a4 ld.length c4, .slice a4 ld.length c4] W fun e w' => (∃ x y, e = .returned (.tuple #[x, y, .int .i64 0]) ∧ Rd w' x G ∧ Rd w' y Y) ∧ Kp W w') := fun W u hW hu => by
    have := sigWrap_any u _ _ _ P lb ld ld W hu (hb.kp hW) (hd.kp hW) (hd.kp hW) (by omega) (by omega)
    rwa [f1, f2, f3, hG, hY] at this
  have H3 : Hid (∀ W v x (_ : Kp w W) (_ : Rd W v (G.take k)) (_ : Rd W x X), Calls Try.prog 16 #[.slice a1 la.length c1, v, .slice a3 lc.length c3, x] W fun e w' => (∃ r, e = .returned (.tuple #[r, .int .i64 1])) ∧ Kp W w') := fun W v x hW hv hx => by
    have := sigUnwrap_any _ v _ x la (G.take k) lc X W (ha.kp hW) hv (hc.kp hW) hx (by omega) (by omega)
    rw [(un_no lc X (fun h => by have := h.2; rw [List.length_take] at this; omega)).1] at this
    refine this.mono ?_
    rintro _ w' ⟨⟨r, rfl, _⟩, kk⟩
    exact ⟨⟨r, rfl⟩, kk⟩
  have H4 : Hid (∀ W v x (_ : Kp w W) (_ : Rd W v G) (_ : Rd W x (X.take k)), Calls Try.prog 16 #[.slice a1 la.length c1, v, .slice a3 lc.length c3, x] W fun e w' => (∃ r, e = .returned (.tuple #[r, .int .i64 3])) ∧ Kp W w') := fun W v x hW hv hx => by
    have := sigUnwrap_any _ v _ x la G lc (X.take k) W (ha.kp hW) hv (hc.kp hW) hx (by omega) (by rw [List.length_take]; omega)
    rw [(un_yes lc (X.take k) ⟨h0, hGL⟩).1, openE_short7 (wk_ok _ _ _) (by rw [List.length_take]; omega)] at this
    refine this.mono ?_
    rintro _ w' ⟨⟨r, rfl, _⟩, kk⟩
    exact ⟨⟨r, rfl⟩, kk⟩
  have HA := Lib.hid (And.intro ha (And.intro hb (And.intro h0 (And.intro h1 (And.intro hP hG)))))
  have HL := Lib.hid (And.intro hPL (And.intro hGL (And.intro hXL hYL)))
  have i1 : IntKind.i64.wrap ((lc.length : Int) + 32) = (lc.length : Int) + 32 := IntWalk.i64_in _ (by omega)
  have i2 : ((lc.length + 32 : Nat) : Int) = (lc.length : Int) + 32 := by omega
  have i3 : IntKind.i64.wrap ((ld.length : Int) + 32) = (ld.length : Int) + 32 := IntWalk.i64_in _ (by omega)
  have i4 : ((ld.length + 32 : Nat) : Int) = (ld.length : Int) + 32 := by omega
  have i5 : IntKind.i64.wrap (n : Int) = (n : Int) := IntWalk.i64_in _ (by omega)
  have i6 : (n : Int).tmod 32 = (k : Int) := by rw [Int.tmod_eq_emod_of_nonneg (by omega)]; omega
  have i7 : IntKind.i64.wrap (k : Int) = (k : Int) := IntWalk.i64_in _ (by omega)
  have i8 : (k : Int) ≤ 32 := by omega
  have i9 : (k : Int) ≤ (lc.length : Int) + 32 := by omega
  rw [h0] at H3 H4 ⊢
  rw [h1] at H1 H2 ⊢
  have r2 : ¬ 200 < (lc.length : Int) := by omega
  have r3 : ¬ 200 < (ld.length : Int) := by omega
  clear ha hb hc hd h0 h1 h2 h3 hP hPL hG hGL hX hXL hY hYL e1 e2 e3 f1 f2 f3 hn hk hk32
  go_enter Try.func6, Try.ntmps6
  go_wp2_with fail
  refine (shownSig_any _).mono ?_
  rintro e w1 ⟨rfl, k1⟩
  have k1 := ((Kp.refl w).alloc _).trans k1
  have K1 := Lib.hid k1
  clear k1
  obtain ⟨HA1, HA2, HA3, HA4, HA5, HA6⟩ := HA.out
  have hHF := HF.out w1 _ la (HA1.kp K1.out) HA3
  rw [HA5, HA3] at hHF
  have HF1 := Lib.hid hHF
  have HF2 : Hid (∀ W (_ : Kp w W), Calls Try.prog 19 #[.slice a2 32 c2] W fun e w' => (∃ r, e = .returned r ∧ Rd w' r G) ∧ Kp W w') := fun W hW => by
    have := HF.out W _ lb (HA2.kp hW) HA4
    rwa [HA6, HA4] at this
  clear hHF HF HA HA1 HA2 HA3 HA4 HA5 HA6
  go_wp2_with fail
  refine (HF1.out).mono ?_
  rintro _ w2 ⟨⟨p, rfl, s1⟩, k2⟩
  have RP := Lib.hid s1
  have K2 := Lib.hid (K1.out.trans k2)
  clear k2 s1
  go_wp2_with fail
  refine (H1.out _ _ K2.out RP.out).mono ?_
  rintro _ w3 ⟨⟨x, y, rfl, s1, s2⟩, k3⟩
  obtain ⟨ag, cg, rfl, pg, _⟩ := s1.shape
  obtain ⟨ax, cx, rfl, px, _⟩ := s2.shape
  rw [HL.out.2.1] at s1 pg ⊢
  rw [HL.out.2.2.1] at s2 px ⊢
  have RP := Lib.hid (RP.out.kp k3)
  have RG := Lib.hid s1
  have RX := Lib.hid s2
  have K3 := Lib.hid (K2.out.trans k3)
  clear k3 s1 s2
  go_wp2_with fail
  refine (H2.out _ _ K3.out RP.out).mono ?_
  rintro _ w4 ⟨⟨x, y, rfl, s1, s2⟩, k4⟩
  obtain ⟨ay, cy, rfl, _, _⟩ := s2.shape
  rw [HL.out.2.2.2] at s2 ⊢
  clear RP
  have RG := Lib.hid (RG.out.kp k4)
  have RX := Lib.hid (RX.out.kp k4)
  have RH := Lib.hid s1
  have RY := Lib.hid s2
  have K4 := Lib.hid (K3.out.trans k4)
  clear k4 s1 s2
  have j1 : (k : Int) ≤ (cg : Int) := by omega
  have j2 : (k : Int) ≤ (cx : Int) := by omega
  go_wp2_with fail
  refine (H3.out _ _ _ K4.out (RG.out.pre6 k (by omega)) RX.out).mono ?_
  rintro _ w5 ⟨⟨r, rfl⟩, k5⟩
  have RG := Lib.hid (RG.out.kp k5)
  have RX := Lib.hid (RX.out.kp k5)
  have RH := Lib.hid (RH.out.kp k5)
  have RY := Lib.hid (RY.out.kp k5)
  have K5 := Lib.hid (K4.out.trans k5)
  clear k5 
  go_wp2_with fail
  refine (H4.out _ _ _ K5.out RG.out (RX.out.pre6 k (by omega))).mono ?_
  rintro _ w6 ⟨⟨r2, rfl⟩, k6⟩
  have RG := Lib.hid (RG.out.kp k6)
  have RX := Lib.hid (RX.out.kp k6)
  have RH := Lib.hid (RH.out.kp k6)
  have RY := Lib.hid (RY.out.kp k6)
  have K6 := Lib.hid (K5.out.trans k6)
  clear k6 
  go_wp2_with fail
  refine (same_yes7b _ _ _ w6 RG.out RH.out).mono ?_
  rintro _ _ ⟨rfl, rfl⟩
  go_wp2_with fail
  refine (HF2.out _ K6.out).mono ?_
  rintro _ w7 ⟨⟨z, rfl, s1⟩, k7⟩
  have RG := Lib.hid (RG.out.kp k7)
  have RZ := Lib.hid s1
  have K7 := Lib.hid (K6.out.trans k7)
  clear k7 s1
  go_wp2_with fail
  refine (same_yes7b _ _ _ w7 RG.out RZ.out).mono ?_
  rintro _ _ ⟨rfl, rfl⟩
  go_wp2_with fail
  go_ret
  exact ⟨rfl, K7.out⟩
end Go.Proofs.Ytdcbljfacmidjaa
