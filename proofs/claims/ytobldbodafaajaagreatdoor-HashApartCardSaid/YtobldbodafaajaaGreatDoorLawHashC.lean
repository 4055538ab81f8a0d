/- HashApart. -/
import Derived.Test.YtobldbodafaajaaGreatDoorShownHash
import Derived.Test.YtobldbodafaajaaGreatDoorRefTree9
import Derived.Test.YtobldbodafaajaaGreatDoorMathRef9
import Derived.Test.YtobldbodafaajaaGreatDoorHashTell
import Derived.Test.YtobldbodafaajaaGreatDoorHashChosen
import Derived.Test.YtobldbodafaajaaGreatDoorTreeRow10
import Derived.Deep.RegionHeld3
set_option linter.unusedVariables false
set_option linter.unusedSimpArgs false
namespace Go.Proofs.YtobldbodafaajaaGreatDoor
open Go.RowKit

theorem may10c {t : List Nod} (h : smallP t 40 ∧ RightP t) : ∃ K, RightK t K ∧ TidyT t K := by
  obtain ⟨h1, K, h2⟩ := h
  exact ⟨K, h2, h2.tidy h1⟩
theorem u8_xor10 (x y : Nat) (hx : x < 256) (hy : y < 256) : bits .xor .u8 (x : Int) (y : Int) = ((x ^^^ y : Nat) : Int) := by
  have hlt : x ^^^ y < 256 := Nat.xor_lt_two_pow (n := 8) hx hy
  change IntKind.u8.wrap (((BitVec.ofInt 8 (x : Int) ^^^ BitVec.ofInt 8 (y : Int)).toNat : Nat) : Int) = _
  rw [BitVec.ofInt_natCast, BitVec.ofInt_natCast, BitVec.toNat_xor, BitVec.toNat_ofNat, BitVec.toNat_ofNat, Nat.mod_eq_of_lt hx, Nat.mod_eq_of_lt hy, IntKind.wrap_u8]
  omega
theorem NO.empty_at (e : TypeId) (W : World) (n : Nat) (h : W.heap.size = n) : NO e (W.alloc (.cells #[] e)) n (.slice (some ⟨n, 0, none⟩) 0 0) [] := by
  subst h
  exact NO.empty e W
/-- The world in which the changed node is about to be laid. -/
theorem apart_last {eb : TypeId} {w1 w6 : World} {o : Obj} {gP cP k : Nat} {pub : List UInt8} {un : List Int} {hash : List UInt8} {vu vh : Value} (hu : RI w1 vu un) (hh : Rd w1 vh hash)
    (h6 : Ow eb w6 (w1.heap.size + 1) (.slice (some ⟨gP, 0, none⟩) 32 cP) pub) (b : UInt8) (k6 : Kp (w1.alloc o) w6) (hg : w1.heap.size + 1 ≤ gP) (v : Value) :
    Rd ((w6.setCell ⟨gP, k, none⟩ (.int .u8 (b.toNat : Int))).setCell ⟨w1.heap.size, 2, none⟩ v) (.slice (some ⟨gP, 0, none⟩) 32 cP) (pub.set k b) ∧
    RI ((w6.setCell ⟨gP, k, none⟩ (.int .u8 (b.toNat : Int))).setCell ⟨w1.heap.size, 2, none⟩ v) vu un ∧
    Rd ((w6.setCell ⟨gP, k, none⟩ (.int .u8 (b.toNat : Int))).setCell ⟨w1.heap.size, 2, none⟩ v) vh hash ∧
    Kp w1 ((w6.setCell ⟨gP, k, none⟩ (.int .u8 (b.toNat : Int))).setCell ⟨w1.heap.size, 2, none⟩ v) := by
  have k7 : Kp (w1.alloc o) (w6.setCell ⟨gP, k, none⟩ (.int .u8 (b.toNat : Int))) := k6.setNew (by rw [World.size_alloc]; exact hg) _
  have kk : Kp w1 ((w6.setCell ⟨gP, k, none⟩ (.int .u8 (b.toNat : Int))).setCell ⟨w1.heap.size, 2, none⟩ v) := (((Kp.refl w1).alloc o).trans k7).setNew (Nat.le_refl _) v
  refine ⟨(h6.put (k := k) b).rd.stepF (Y := fun k => k = w1.heap.size) ((Step.refl _ _).setCell _ _ (.inr rfl)) (fun x n c e _ hk => ?_), hu.kp kk, hh.kp kk, kk⟩
  simp only [Value.slice.injEq, Option.some.injEq] at e
  obtain ⟨rfl, _⟩ := e
  have : gP = w1.heap.size := hk
  omega
set_option maxRecDepth 100000 in
set_option maxHeartbeats 6000000 in
theorem hashApart_walk (vt : Value) (t : List Nod) (at9 : Nat) (b : UInt8) (w : World) (ht : NL w vt t) (hat9 : at9 ≤ 255) (hTAB : Tab w) :
    Calls Tryz.prog 5 #[vt, .int .u8 (at9 : Int), .int .u8 (b.toNat : Int)] w (Yes w) := by
  have U := u8
  have S5n := s5nodes
  have S1n := s1ints
  have HTAB := Lib.hid hTAB
  clear hTAB
  have HSH := Lib.hid (shownHash_any w HTAB.out)
  have HMAY := Lib.hid (fun W (hW : Kp w W) => refMayT_any vt t 40 W (ht.kp hW) (by omega))
  have HT0 := Lib.hid ht
  have hb256 := b.toNat_lt
  have wa : IntKind.i64.wrap (at9 : Int) = (at9 : Int) := IntWalk.i64_in _ (by omega)
  have wb : IntKind.i64.wrap (b.toNat : Int) = (b.toNat : Int) := IntWalk.i64_in _ (by omega)
  have btm : (b.toNat : Int).tmod 32 = ((b.toNat % 32 : Nat) : Int) := by rw [Int.tmod_eq_emod_of_nonneg (by omega)]; omega
  have bw : IntKind.i64.wrap ((b.toNat % 32 : Nat) : Int) = ((b.toNat % 32 : Nat) : Int) := IntWalk.i64_in _ (by omega)
  have hk32 : b.toNat % 32 < 32 := Nat.mod_lt _ (by omega)
  have hb0 : b ≠ 0 → (b.toNat : Int) ≠ 0 := fun h e => h (UInt8.toNat_inj.1 (by simp; omega))
  have hb1 : b = 0 → (b.toNat : Int) = 0 := fun h => by rw [h]; rfl
  have hxo : ∀ x : UInt8, bits .xor .u8 (x.toNat : Int) (b.toNat : Int) = ((x ^^^ b).toNat : Int) := fun x => by
    rw [u8_xor10 _ _ x.toNat_lt hb256, UInt8.toNat_xor]
  obtain ⟨aa, ca, rfl, _, _⟩ := ht.shape
  clear ht
  generalize hBN : (b.toNat : Int) = BN at *
  generalize hKI : b.toNat % 32 = k at *
  go_enter Tryz.func5, Tryz.ntmps5
  go_wp2_with fail
  refine HSH.out.mono ?_
  rintro _ w0 ⟨rfl, k0⟩
  have KK := Lib.hid k0
  clear k0 HSH
  go_wp2_with fail
  refine (HMAY.out _ KK.out).mono ?_
  rintro _ w1 ⟨⟨bA, rfl, hA⟩, k1⟩
  have KK := Lib.hid (KK.out.trans k1)
  clear k1
  cases bA
  · clear hA
    go_wp2_with fail
    go_ret
    exact ⟨rfl, KK.out⟩
  · obtain ⟨K, hr, hd⟩ := may10c (hA.1 rfl)
    clear hA HMAY
    obtain ⟨hz1, hz2, hz3⟩ := hr.small
    have hX : at9 % t.length < t.length := Nat.mod_lt _ hz3
    have atm : ((at9 : Int)).tmod (t.length : Int) = ((at9 % t.length : Nat) : Int) := by rw [Int.tmod_eq_emod_of_nonneg (by omega)]; omega
    have aw : IntKind.i64.wrap ((at9 % t.length : Nat) : Int) = ((at9 % t.length : Nat) : Int) := IntWalk.i64_in _ (by omega)
    have hna : ((t.length : Int) == 0) = false := beq_eq_false_iff_ne.2 (by omega)
    have hna2 : ¬ (t.length : Int) = 0 := by omega
    obtain ⟨X, hXX⟩ : ∃ X, at9 % t.length = X := ⟨_, rfl⟩
    rw [hXX] at hX atm aw
    have hXI : (X : Int) < (t.length : Int) := by omega
    have HNL : Hid (∀ x, x < t.length → ∃ bt ot p u q, aa = some ⟨bt, ot, none⟩ ∧ ∀ W, Kp w W → NAt W bt (ot + x * 5) (ats t x) p u q) := fun x hx => by
      obtain ⟨bt, ot, e, _, hc⟩ := HT0.out.at x hx
      obtain ⟨p, u, q, hn⟩ := hc x hx
      exact ⟨bt, ot, p, u, q, e, fun W hW => hn.kp hW⟩
    obtain ⟨bt, ot, vp, vu, vq, et, hn⟩ := HNL.out X hX
    subst et
    obtain ⟨xp, np, cp, rfl⟩ := rd_slH (hn w (Kp.refl _)).2.pub
    obtain ⟨xu, nu, cu, rfl⟩ := (hn w (Kp.refl _)).2.un.sl
    obtain ⟨xh, nh, ch, rfl⟩ := rd_slH (hn w (Kp.refl _)).2.hash
    have hnA := hn w1 KK.out
    have c0 := hnA.kind
    have c1 := hnA.name
    have c2 := hnA.pubC
    have c3 := hnA.unC
    have c4 := hnA.hashC
    have HN1 := Lib.hid hnA.2
    have HNX := Lib.hid hn
    clear hnA hn
    by_cases hk0 : (ats t X).kind = 0
    · rw [hk0] at c0
      clear hxo HNX HNL hr hd hz1 hz2 hz3 hXX hBN hKI hb0 hb1 hb256
      generalize t.length = N at *
      go_wp2_with fail
      go_ret
      exact ⟨rfl, KK.out.alloc _⟩
    · have hk1 : ((ats t X).kind == 0) = false := beq_eq_false_iff_ne.2 hk0
      by_cases hbz : b = 0
      · have hbz1 : BN = 0 := hb1 hbz
        subst hbz1
        clear hxo HNX HNL hr hd hz1 hz2 hz3 hXX hBN hKI hb0 hb1 hb256
        generalize (ats t X).kind = KD at *
        generalize t.length = N at *
        go_wp2_with fail
        go_ret
        exact ⟨rfl, KK.out.alloc _⟩
      · have hbz1 : (BN == 0) = false := beq_eq_false_iff_ne.2 (hb0 hbz)
        have hpl : (ats t X).pub.length = 32 := by
          rcases hr.okA X with e | ⟨_, e, _⟩
          · rw [e] at hk0; exact absurd rfl hk0
          · exact e.2.2
        have hkp : k < (ats t X).pub.length := by omega
        have hPX : (ats t X).pub.set k ((ats t X).pub.getD k 0 ^^^ b) ≠ (ats t X).pub := xor_flip b hkp hbz
        have hxo1 := hxo ((ats t X).pub.getD k 0)
        obtain ⟨P0, hP0⟩ : ∃ P0 : UInt8, (ats t X).pub.getD k 0 = P0 := ⟨_, rfl⟩
        obtain ⟨P1, hP1⟩ : ∃ P1 : UInt8, P0 ^^^ b = P1 := ⟨_, rfl⟩
        rw [hP0] at hPX hxo1
        rw [hP1] at hPX hxo1
        obtain ⟨PW, hPW⟩ : ∃ PW, (ats t X).pub.set k P1 = PW := ⟨_, rfl⟩
        rw [hPW] at hPX
        have hPWl : PW.length = 32 := by rw [← hPW, List.length_set]; exact hpl
        have HPW := Lib.hid hPW
        have HPS := Lib.hid hpl
        have HLN : Hid (t.length ≤ 1000000) := by unfold Hid; omega
        have hkI : (k : Int) < 32 := by omega
        have HKI := Lib.hid hkp
        have HFP : Hid (∀ W B v, Ow 5 W B v (ats t X).pub → ∃ gP cP, v = .slice (some ⟨gP, 0, none⟩) 32 cP ∧ B ≤ gP ∧ gP < W.heap.size ∧ W.cell? ⟨gP, k, none⟩ = some (.int .u8 (P0.toNat : Int)) ∧ W.frozen? ⟨gP, k, none⟩ = false) := fun W B v h => by
          rcases h.shape with ⟨_, e⟩ | ⟨g', c', e, h1, h2, _⟩
          · have := HPS.out; rw [e] at this; cases this
          · rw [HPS.out] at e
            subst e
            obtain ⟨b', off', e2, _, hc⟩ := h.rd.at k (by omega)
            simp only [Option.some.injEq, Addr.mk.injEq, and_true] at e2
            obtain ⟨rfl, rfl⟩ := e2
            have := hc k (by omega)
            rw [hP0, Nat.zero_add] at this
            exact ⟨g', c', rfl, h1, h2, this, h.frozenAt k⟩
        obtain ⟨j, q, L, A, DT, DU, PT, PU, hXe, hj, hq, hL10, hPL, hAL, hA, hTT, hTU, hPT, hPU, hD, hW⟩ := apart_all hr hd hX hk0 hpl hPWl hPX
        have HNE := Lib.hid (pub_apart (hr.okN X) (hd.node X) hk0 (by rw [hPWl, hpl]) hPX).1
        have HNC1 : Hid (∀ W v, Kp w W → NV W v (pubN (ats t X) PW) → Calls Tryz.prog 13 #[v] W fun e w' => (∃ r, e = .returned r ∧ Rd w' r (nodeB (pubN (ats t X) PW))) ∧ Kp W w') := fun W v hW hv => hashNode_any v _ W hv ⟨(hd.node X).kind, (hd.node X).name, by show PW.length ≤ 40; omega, (hd.node X).hash, (hd.node X).unl, (hd.node X).un⟩ (HTAB.out.kp hW)
        have HNC2 : Hid (∀ k W v, Kp w W → NV W v (ats t k) → Calls Tryz.prog 13 #[v] W fun e w' => (∃ r, e = .returned r ∧ Rd w' r (nodeB (ats t k))) ∧ Kp W w') := fun k W v hW hv => hashNode_any v _ W hv (hd.node k) (HTAB.out.kp hW)
        have HINJ : Hid (∀ y z, nodeB (ats t y) = nodeB (ats t z) → ats t y = ats t z) := fun y z h => nodeB_inj (hr.okN y) (hr.okN z) (hd.node y) (hd.node z) h
        have HCX : Hid (∀ W, Kp w W → W.cell? ⟨bt, ot + X * 5, none⟩ = some (.int .i64 (ats t X).kind) ∧ W.cell? ⟨bt, ot + X * 5 + 1, none⟩ = some (.int .i64 (ats t X).name) ∧ W.cell? ⟨bt, ot + X * 5 + 2, none⟩ = some (.slice xp np cp) ∧ W.cell? ⟨bt, ot + X * 5 + 3, none⟩ = some (.slice xu nu cu) ∧ W.cell? ⟨bt, ot + X * 5 + 4, none⟩ = some (.slice xh nh ch)) := fun W hW => ⟨(HNX.out W hW).kind, (HNX.out W hW).name, (HNX.out W hW).pubC, (HNX.out W hW).unC, (HNX.out W hW).hashC⟩
        have HVX : Hid (∀ W, Kp w W → NV W (.agg #[.int .i64 (ats t X).kind, .int .i64 (ats t X).name, .slice xp np cp, .slice xu nu cu, .slice xh nh ch]) (ats t X)) := fun W hW => ⟨_, _, _, rfl, (HNX.out W hW).2⟩
        have hlv := hr.lv
        have HLV : Hid (∀ W, Kp w W → Calls Tryz.prog 22 #[.slice (some ⟨bt, ot, none⟩) t.length ca] W fun e w' => e = .returned (.int .i64 ((2 ^ K : Nat) : Int)) ∧ W = w') := fun W hW => by
          have := refLvs_any _ t W (HT0.out.kp hW) (by omega)
          rwa [hlv] at this
        have HPA : Hid (∀ W, Calls Tryz.prog 21 #[.int .i64 (X : Int), .int .i64 ((2 ^ K : Nat) : Int)] W fun e w' => (∃ v, e = .returned (.tuple #[v, .int .i64 0]) ∧ ON 3 w' W.heap.size v (pathN K j q)) ∧ Kp W w') := fun W => by
          have := refPath_yes K j q W hr.le hj hq
          rwa [← hXe] at this
        obtain ⟨NN, hNN⟩ : ∃ NN : Int, ((2 ^ K : Nat) : Int) = NN := ⟨_, rfl⟩
        rw [hNN] at HLV HPA
        obtain ⟨LL, hLL⟩ : ∃ LL, L + 1 = LL := ⟨_, rfl⟩
        rw [hLL] at hAL
        have hLi : ∀ i, i < LL → i ≤ L := fun i h => by omega
        have HPL := Lib.hid hPL
        have HAL := Lib.hid hAL
        have HL10 : Hid (L ≤ 10 ∧ LL ≤ 11) := ⟨hL10, by omega⟩
        have HA := Lib.hid (fun i (h : i < LL) => hA i (hLi i h))
        have HTT := Lib.hid (fun i W v (h : i < LL) => hTT i W v (hLi i h))
        have HTU := Lib.hid (fun i W v (h : i < LL) => hTU i W v (hLi i h))
        have HPT := Lib.hid (fun i W v (h : i < LL) => hPT i W v (hLi i h))
        have HPU := Lib.hid (fun i W v (h : i < LL) => hPU i W v (hLi i h))
        have HD := Lib.hid hD
        have HW := Lib.hid (fun i (h : i < LL) => hW i (hLi i h))
        clear hXe hj hq hL10 hPL hAL hA hTT hTU hPT hPU hD hW hlv hNN hLL hLi
        generalize pathN K j q = PL at *
        have HMM : Hid (pubN (ats t X) PW = ⟨(ats t X).kind, (ats t X).name, PW, (ats t X).un, (ats t X).hash⟩) := rfl
        obtain ⟨N, hN⟩ : ∃ N, t.length = N := ⟨_, rfl⟩
        rw [hN] at HT0 HNL hX atm hna hna2 hXI HLV ⊢
        have HFM : Hid (∀ W B v, NO 37 W B v t → ∃ gU cU, v = .slice (some ⟨gU, 0, none⟩) N cU ∧ B ≤ gU ∧ gU < W.heap.size) := fun W B v h => by
          obtain ⟨g', c', e, h1, h2, _⟩ := h.form (by omega)
          rw [hN] at e
          exact ⟨g', c', e, h1, h2⟩
        have HNN := Lib.hid hN
        generalize nodeB (pubN (ats t X) PW) = NB1 at *
        generalize hKD : (ats t X).kind = KD at *
        generalize hNM : (ats t X).name = NM at *
        clear hr hd hk0 hPX hPWl hpl hkp hP0 hP1 hPW hz1 hz2 hz3 hb256 hb0 hb1 hxo hbz hN hXX hBN hKI hKD hNM
        go_wp2_with (first
          | (at_builtin; refine wpList_append_ow (o := ⟨some 49, _, _, _, _, _⟩) U rfl _ _ rfl (w1.heap.size + 1) _ [] rfl (Ow.none1 w1 5 _) _ (ats t X).pub rfl (HN1.out.pub.kp (((Kp.refl _).alloc _).alloc _)) (by rw [HPS.out]; simp) (by simp) ?_; intro v6 w6 o6 g6 _; rw [List.nil_append] at o6; obtain ⟨gP, cP, hv6, hgP1, hgP2, p6, q6⟩ := HFP.out w6 _ v6 o6; subst hv6; have k6 := Kp.grown (w0 := w1.alloc (.cells #[.int .i64 KD, .int .i64 NM, .slice xp np cp, .slice xu nu cu, .slice xh nh ch] 37)) ((Kp.refl _).alloc _) g6 (fun k hk => by cases hk; simp); have k7 := k6.setNew (b := gP) (j := k) (by simp; omega) (.int .u8 (P1.toNat : Int)); have hb7 := (Bx.new w1 37 #[.int .i64 KD, .int .i64 NM, .slice xp np cp, .slice xu nu cu, .slice xh nh ch]).kp k7; have d2 := hb7.cell 2; have e2 := hb7.frozen 2; have hb8 := hb7.set 2 (.slice (some ⟨gP, 0, none⟩) 32 cP); simp only [List.setIfInBounds_toArray, List.set_cons_zero, List.set_cons_succ, List.getElem?_toArray, List.getElem?_cons_zero, List.getElem?_cons_succ] at d2; have HB8 := Lib.hid hb8; have HGP := Lib.hid (And.intro hgP1 hgP2); have hf7 := apart_last (k := k) HN1.out.un HN1.out.hash o6 P1 k6 hgP1 (.slice (some ⟨gP, 0, none⟩) 32 cP); rw [HPW.out] at hf7; have HF7 := Lib.hid hf7; have HSZ : Hid (((w6.setCell ⟨gP, k, none⟩ (.int .u8 (P1.toNat : Int))).setCell ⟨w1.heap.size, 2, none⟩ (.slice (some ⟨gP, 0, none⟩) 32 cP)).heap.size = w6.heap.size) := (by unfold Hid; simp); clear hf7 g6 k6 k7 hb7 hb8 o6 hgP1 hgP2)
          | (at_builtin; refine wpList_append_nodes (o := ⟨some 67, _, _, _, _, _⟩) S5n rfl _ _ rfl w6.heap.size _ [] rfl (NO.empty_at 37 _ w6.heap.size (by exact HSZ.out)) _ t rfl ((HT0.out.kp (KK.out.trans HF7.out.2.2.2)).apart ((Kp.refl _).alloc _) (fun g hg => by cases hg; simp)) (by have := HLN.out; simp; omega) (by simp) ?_; intro v9 w9 o9 g9 _; rw [List.nil_append] at o9; obtain ⟨gU, cU, hv9, hgU1, hgU2⟩ := HFM.out w9 _ v9 o9; subst hv9; rw [← HSZ.out] at hgU1; have k9 := Kp.grown ((Kp.refl _).alloc _) g9 (fun k hk => by cases hk; simp); have hb9 := HB8.out.kp k9; have d0 := hb9.cell 0; have d1 := hb9.cell 1; have d2' := hb9.cell 2; have d3 := hb9.cell 3; have d4 := hb9.cell 4; simp only [List.setIfInBounds_toArray, List.set_cons_zero, List.set_cons_succ, List.getElem?_toArray, List.getElem?_cons_zero, List.getElem?_cons_succ] at d0 d1 d2' d3 d4; have K9 := Lib.hid k9; have O9 := Lib.hid o9; have HB9 := Lib.hid hb9; have HGU := Lib.hid (And.intro hgU1 hgU2); have AP9 := Lib.hid (And.intro (HF7.out.1.apart (v := .slice (some ⟨gU, 0, none⟩) N cU) (fun g hg => by cases hg; exact hgU1)) (And.intro (HF7.out.2.1.apart (v := .slice (some ⟨gU, 0, none⟩) N cU) (fun g hg => by cases hg; exact hgU1)) (HF7.out.2.2.1.apart (v := .slice (some ⟨gU, 0, none⟩) N cU) (fun g hg => by cases hg; exact hgU1)))); have NI9 : Hid (NIn w9 ⟨KD, NM, PW, (ats t X).un, (ats t X).hash⟩ (.slice (some ⟨gP, 0, none⟩) 32 cP) (.slice xu nu cu) (.slice xh nh ch)) := (by exact ⟨HF7.out.1.kp k9, HF7.out.2.1.kp k9, HF7.out.2.2.1.kp k9⟩); clear g9 k9 hb9 o9 hgU1 hgU2)
          | (refine wpList_store_node infoNode5 rfl rfl (.tmp 71) (.tmp 70) rfl _ gU cU N t (by exact O9.out) X (by rw [HNN.out]; exact hX) ⟨KD, NM, PW, (ats t X).un, (ats t X).hash⟩ (.slice (some ⟨gP, 0, none⟩) 32 cP) (.slice xu nu cu) (.slice xh nh ch) rfl rfl (by exact NI9.out) (by exact AP9.out.1) (by exact AP9.out.2.1) (by exact AP9.out.2.2) ?_; intro wX oX gX))
        -- TAIL (written by gen/hash6.py)
        have KKX : Hid (Kp w wX) := Below.grown (KK.out.trans (HF7.out.2.2.2.trans K9.out)) gX (KK.out.trans (HF7.out.2.2.2.trans K9.out)).size (fun k hk => by cases hk; exact Nat.le_trans (KK.out.trans HF7.out.2.2.2).size HGU.out.1)
        have HBX := Lib.hid (HB9.out.grown gX (fun e => by have h1 := (Array.getElem?_eq_some_iff.1 HB8.out).1; have h2 := HGU.out.1; simp only [Option.some.injEq] at e; omega))
        have NIX := NIn.grown (v := .slice (some ⟨gU, 0, none⟩) N cU) NI9.out gX AP9.out.1 AP9.out.2.1 AP9.out.2.2
        have hnv : ∀ W, Kp wX W → NV W (.agg #[.int .i64 KD, .int .i64 NM, .slice (some ⟨gP, 0, none⟩) 32 cP, .slice xu nu cu, .slice xh nh ch]) (pubN (ats t X) PW) := fun W hW => by rw [HMM.out]; exact ⟨_, _, _, rfl, ⟨NIX.pub.kp hW, NIX.un.kp hW, NIX.hash.kp hW⟩⟩
        have HNV := Lib.hid hnv
        rw [← HMM.out] at oX
        have HUX := Lib.hid oX.nl
        clear hnv oX gX NIX HF7 K9 O9 HB9 HB8 HGU AP9 NI9 HN1 HFM HFP HPW HPS HKI HGP c0 c1 c2 c3 c4 d0 d1 d2 d2' d3 d4 e2 p6 q6
        have HBC : Hid (∀ W, Kp wX W → W.cell? ⟨w1.heap.size, 0, none⟩ = some (.int .i64 KD) ∧ W.cell? ⟨w1.heap.size, 1, none⟩ = some (.int .i64 NM) ∧ W.cell? ⟨w1.heap.size, 2, none⟩ = some (.slice (some ⟨gP, 0, none⟩) 32 cP) ∧ W.cell? ⟨w1.heap.size, 3, none⟩ = some (.slice xu nu cu) ∧ W.cell? ⟨w1.heap.size, 4, none⟩ = some (.slice xh nh ch)) := fun W hW => ⟨(HBX.out.kp hW).cell 0, (HBX.out.kp hW).cell 1, (HBX.out.kp hW).cell 2, (HBX.out.kp hW).cell 3, (HBX.out.kp hW).cell 4⟩
        have HSS : Hid (∀ W, Kp wX W → (W.cell? ⟨w1.heap.size, 0, none⟩ = some (.int .i64 KD) ∧ W.cell? ⟨w1.heap.size, 1, none⟩ = some (.int .i64 NM) ∧ W.cell? ⟨w1.heap.size, 2, none⟩ = some (.slice (some ⟨gP, 0, none⟩) 32 cP) ∧ W.cell? ⟨w1.heap.size, 3, none⟩ = some (.slice xu nu cu) ∧ W.cell? ⟨w1.heap.size, 4, none⟩ = some (.slice xh nh ch)) ∧ (W.cell? ⟨bt, ot + X * 5, none⟩ = some (.int .i64 KD) ∧ W.cell? ⟨bt, ot + X * 5 + 1, none⟩ = some (.int .i64 NM) ∧ W.cell? ⟨bt, ot + X * 5 + 2, none⟩ = some (.slice xp np cp) ∧ W.cell? ⟨bt, ot + X * 5 + 3, none⟩ = some (.slice xu nu cu) ∧ W.cell? ⟨bt, ot + X * 5 + 4, none⟩ = some (.slice xh nh ch))) := fun W hW => ⟨HBC.out W hW, HCX.out W (KKX.out.trans hW)⟩
        have HC1 : Hid (∀ W, Kp wX W → Calls Tryz.prog 13 #[.agg #[.int .i64 KD, .int .i64 NM, .slice (some ⟨gP, 0, none⟩) 32 cP, .slice xu nu cu, .slice xh nh ch]] W fun e w' => (∃ r, e = .returned r ∧ Rd w' r NB1) ∧ Kp W w') := fun W hW => HNC1.out W _ (KKX.out.trans hW) (HNV.out W hW)
        have HC2 : Hid (∀ W, Kp wX W → Calls Tryz.prog 13 #[.agg #[.int .i64 KD, .int .i64 NM, .slice xp np cp, .slice xu nu cu, .slice xh nh ch]] W fun e w' => (∃ r, e = .returned r ∧ Rd w' r (nodeB (ats t X))) ∧ Kp W w') := fun W hW => HNC2.out X W _ (KKX.out.trans hW) (HVX.out W (KKX.out.trans hW))
        have HSM : Hid (∀ W u v, Rd W u NB1 → Rd W v (nodeB (ats t X)) → Calls Tryz.prog 12 #[u, v] W fun e w' => e = .returned (.bool false) ∧ W = w') := fun W u v hu hv => by
          have := same_any u v NB1 (nodeB (ats t X)) W hu hv
          rwa [decide_eq_false HNE.out] at this
        have KDX : Hid (Kp wX wX.drew) := Kp.drew (Kp.refl wX)
        clear HBC HBX HNV HVX HCX HNC1 HMM
        refine wp_region_held_drew (S := fun W => (W.cell? ⟨w1.heap.size, 0, none⟩ = some (.int .i64 KD) ∧ W.cell? ⟨w1.heap.size, 1, none⟩ = some (.int .i64 NM) ∧ W.cell? ⟨w1.heap.size, 2, none⟩ = some (.slice (some ⟨gP, 0, none⟩) 32 cP) ∧ W.cell? ⟨w1.heap.size, 3, none⟩ = some (.slice xu nu cu) ∧ W.cell? ⟨w1.heap.size, 4, none⟩ = some (.slice xh nh ch)) ∧ (W.cell? ⟨bt, ot + X * 5, none⟩ = some (.int .i64 KD) ∧ W.cell? ⟨bt, ot + X * 5 + 1, none⟩ = some (.int .i64 NM) ∧ W.cell? ⟨bt, ot + X * 5 + 2, none⟩ = some (.slice xp np cp) ∧ W.cell? ⟨bt, ot + X * 5 + 3, none⟩ = some (.slice xu nu cu) ∧ W.cell? ⟨bt, ot + X * 5 + 4, none⟩ = some (.slice xh nh ch))) (by kernel_rfl) (HSS.out _ (by first | exact K13.out | exact K12.out | exact KDX.out)) (fun hHeld => ?_)
        refine wpAnyH_take (i := 0) (oi := ⟨some 72, _, _, _, _, _⟩) (v := ?_) rfl (by kernel_rfl) (by kernel_rfl) (by kernel_rfl) (fun _ _ _ h => h) (Or.inl ⟨by kernel_rfl, ?_⟩) (by assumption) ?_
        rotate_left
        focus ((intro w hSw; (try dsimp only at hSw); go_simp); (try with_reducible rfl); done)
        simp only [Act.put, List.setIfInBounds_toArray, List.set_cons_zero, List.set_cons_succ]
        refine wpAnyH_take (i := 2) (oi := ⟨some 74, _, _, _, _, _⟩) (v := ?_) rfl (by kernel_rfl) (by kernel_rfl) (by kernel_rfl) (fun _ _ _ h => h) (Or.inl ⟨by kernel_rfl, ?_⟩) (by assumption) ?_
        rotate_left
        focus ((intro w hSw; (try dsimp only at hSw); go_simp); (try with_reducible rfl); done)
        simp only [Act.put, List.setIfInBounds_toArray, List.set_cons_zero, List.set_cons_succ]
        refine wpAnyH_take (i := 3) (oi := ⟨some 75, _, _, _, _, _⟩) (v := ?_) rfl (by kernel_rfl) (by kernel_rfl) (by kernel_rfl) (fun _ _ _ h => h) (Or.inl ⟨by kernel_rfl, ?_⟩) (by assumption) ?_
        rotate_left
        focus ((intro w hSw; (try dsimp only at hSw); go_simp); (try with_reducible rfl); done)
        simp only [Act.put, List.setIfInBounds_toArray, List.set_cons_zero, List.set_cons_succ]
        refine wpAnyH_take (i := 4) (oi := ⟨some 76, _, _, _, _, _⟩) (v := ?_) rfl (by kernel_rfl) (by kernel_rfl) (by kernel_rfl) (fun _ _ _ h => h) (Or.inl ⟨by kernel_rfl, ?_⟩) (by assumption) ?_
        rotate_left
        focus ((intro w hSw; (try dsimp only at hSw); go_simp); (try with_reducible rfl); done)
        simp only [Act.put, List.setIfInBounds_toArray, List.set_cons_zero, List.set_cons_succ]
        refine wpAnyH_take (i := 5) (oi := ⟨some 77, _, _, _, _, _⟩) (v := ?_) rfl (by kernel_rfl) (by kernel_rfl) (by kernel_rfl) (fun _ _ _ h => h) (Or.inl ⟨by kernel_rfl, ?_⟩) (by assumption) ?_
        rotate_left
        focus ((intro w hSw; (try dsimp only at hSw); go_simp); (try with_reducible rfl); done)
        simp only [Act.put, List.setIfInBounds_toArray, List.set_cons_zero, List.set_cons_succ]
        refine wpAnyH_ready (rs := [1]) (by kernel_rfl) (by simp) ?_
        refine AllReadyH.cons (o := ⟨some 73, _, _, _, _, _⟩) rfl (fun K hK => ?_) AllReadyH.nil
        go_simp
        go_at_call 13; refine (HC1.out _ KDX.out).mono ?_; rintro _ w12 ⟨⟨r12, rfl, o12⟩, k12⟩; have K12 := Lib.hid (KDX.out.trans k12); clear k12
        refine hK.out _ _ (HSS.out _ (by first | exact K13.out | exact K12.out | exact KDX.out)) (fun hHeld => ?_)
        clear hK K
        try simp only [Act.put, List.setIfInBounds_toArray, List.set_cons_zero, List.set_cons_succ]
        refine wpAnyH_ready (rs := [6]) (by kernel_rfl) (by simp) ?_
        refine AllReadyH.cons (o := ⟨some 78, _, _, _, _, _⟩) rfl (fun K hK => ?_) AllReadyH.nil
        go_simp
        go_at_call 13; refine (HC2.out _ K12.out).mono ?_; rintro _ w13 ⟨⟨r13, rfl, o13⟩, k13⟩; have O13 := Lib.hid (And.intro (o12.kp k13) o13); have K13 := Lib.hid (K12.out.trans k13); clear k13 o12 o13
        refine hK.out _ _ (HSS.out _ (by first | exact K13.out | exact K12.out | exact KDX.out)) (fun hHeld => ?_)
        clear hK K
        try simp only [Act.put, List.setIfInBounds_toArray, List.set_cons_zero, List.set_cons_succ]
        refine wpAnyH_ready (rs := [7]) (by kernel_rfl) (by simp) ?_
        refine AllReadyH.cons (o := ⟨some 79, _, _, _, _, _⟩) rfl (fun K hK => ?_) AllReadyH.nil
        go_simp
        go_at_call 12; refine (HSM.out _ _ _ O13.out.1 O13.out.2).mono ?_; rintro _ _ ⟨rfl, rfl⟩
        refine hK.out _ _ (HSS.out _ (by first | exact K13.out | exact K12.out | exact KDX.out)) (fun hHeld => ?_)
        clear hK K
        try simp only [Act.put, List.setIfInBounds_toArray, List.set_cons_zero, List.set_cons_succ]
        refine wpAnyH_done (by kernel_rfl) ?_ _
        have HUL := Lib.hid (HUX.out.kp K13.out)
        have KKL := Lib.hid (KKX.out.trans K13.out)
        clear HUX KKX HSS HC1 HC2 HSM KDX K12 O13 HNE
        obtain ⟨wL, hwL⟩ : ∃ W, W = w13 := ⟨_, rfl⟩
        subst hwL
        clear K13
        go_wp2_with fail
        go_loopw [12] (fun x wr => ∃ y : Nat, y ≤ N ∧ x = .int .i64 (y : Int) ∧ Kp wL wr) (fun x _ => (N - (intOf x).toNat))
        case atStart => exact ⟨0, Nat.zero_le _, rfl, Kp.refl _⟩
        case round =>
          obtain ⟨y, hy, rfl, hkp⟩ := hrel
          have KR := Lib.hid hkp
          have HNb : Hid (N ≤ 1000000) := by have := HLN.out; rw [HNN.out] at this; exact this
          have hNb := HNb.out
          by_cases hlt : y < N
          · have i1 : IntKind.i64.wrap ((y : Int) + 1) = (y : Int) + 1 := IntWalk.i64_in _ (by omega)
            have i3 : (y : Int) < (N : Int) := by omega
            clear hkp
            go_wp2_with fail
            go_loopw [13] (fun x wr => ∃ z : Nat, z ≤ N ∧ x = .int .i64 (z : Int) ∧ Kp wL wr) (fun x _ => (N - (intOf x).toNat))
            case atStart => exact ⟨0, Nat.zero_le _, rfl, KR.out⟩
            case round =>
              obtain ⟨z, hz, rfl, hkq⟩ := hrel
              have KQ := Lib.hid hkq
              by_cases hlz : z < N
              · have i4 : IntKind.i64.wrap ((z : Int) + 1) = (z : Int) + 1 := IntWalk.i64_in _ (by omega)
                have i5 : (z : Int) < (N : Int) := by omega
                obtain ⟨b1, o1, tp, tu, tq, e1, hn1⟩ := HNL.out y hlt
                simp only [Option.some.injEq, Addr.mk.injEq, and_true] at e1
                obtain ⟨rfl, rfl⟩ := e1
                obtain ⟨b2, o2, tp2, tu2, tq2, e2, hn2⟩ := HNL.out z hlz
                simp only [Option.some.injEq, Addr.mk.injEq, and_true] at e2
                obtain ⟨rfl, rfl⟩ := e2
                obtain ⟨pa, pn, pc, rfl⟩ := rd_slH (hn1 w (Kp.refl _)).2.pub
                obtain ⟨ua, un, uc, rfl⟩ := (hn1 w (Kp.refl _)).2.un.sl
                obtain ⟨qa, qn, qc, rfl⟩ := rd_slH (hn1 w (Kp.refl _)).2.hash
                obtain ⟨pa2, pn2, pc2, rfl⟩ := rd_slH (hn2 w (Kp.refl _)).2.pub
                obtain ⟨ua2, un2, uc2, rfl⟩ := (hn2 w (Kp.refl _)).2.un.sl
                obtain ⟨qa2, qn2, qc2, rfl⟩ := rd_slH (hn2 w (Kp.refl _)).2.hash
                have hin := HINJ.out y z
                have hq1 := HNC2.out y
                have hq2 := HNC2.out z
                obtain ⟨X1, hX1⟩ : ∃ X1, ats t y = X1 := ⟨_, rfl⟩
                obtain ⟨X2, hX2⟩ : ∃ X2, ats t z = X2 := ⟨_, rfl⟩
                rw [hX1] at hn1 hin hq1
                rw [hX2] at hn2 hin hq2
                have HSS : Hid (∀ W, Kp wL W → (W.cell? ⟨bt, ot + y * 5, none⟩ = some (.int .i64 X1.kind) ∧ W.cell? ⟨bt, ot + y * 5 + 1, none⟩ = some (.int .i64 X1.name) ∧ W.cell? ⟨bt, ot + y * 5 + 2, none⟩ = some (.slice pa pn pc) ∧ W.cell? ⟨bt, ot + y * 5 + 3, none⟩ = some (.slice ua un uc) ∧ W.cell? ⟨bt, ot + y * 5 + 4, none⟩ = some (.slice qa qn qc)) ∧ (W.cell? ⟨bt, ot + z * 5, none⟩ = some (.int .i64 X2.kind) ∧ W.cell? ⟨bt, ot + z * 5 + 1, none⟩ = some (.int .i64 X2.name) ∧ W.cell? ⟨bt, ot + z * 5 + 2, none⟩ = some (.slice pa2 pn2 pc2) ∧ W.cell? ⟨bt, ot + z * 5 + 3, none⟩ = some (.slice ua2 un2 uc2) ∧ W.cell? ⟨bt, ot + z * 5 + 4, none⟩ = some (.slice qa2 qn2 qc2))) := fun W hW => by
                  have g1 := hn1 W (KKL.out.trans hW)
                  have g2 := hn2 W (KKL.out.trans hW)
                  exact ⟨⟨g1.kind, g1.name, g1.pubC, g1.unC, g1.hashC⟩, ⟨g2.kind, g2.name, g2.pubC, g2.unC, g2.hashC⟩⟩
                have HC1 : Hid (∀ W, Kp wL W → Calls Tryz.prog 13 #[.agg #[.int .i64 X1.kind, .int .i64 X1.name, .slice pa pn pc, .slice ua un uc, .slice qa qn qc]] W fun e w' => (∃ r, e = .returned r ∧ Rd w' r (nodeB X1)) ∧ Kp W w') := fun W hW => hq1 W _ (KKL.out.trans hW) ⟨_, _, _, rfl, (hn1 W (KKL.out.trans hW)).2⟩
                have HC2 : Hid (∀ W, Kp wL W → Calls Tryz.prog 13 #[.agg #[.int .i64 X2.kind, .int .i64 X2.name, .slice pa2 pn2 pc2, .slice ua2 un2 uc2, .slice qa2 qn2 qc2]] W fun e w' => (∃ r, e = .returned r ∧ Rd w' r (nodeB X2)) ∧ Kp W w') := fun W hW => hq2 W _ (KKL.out.trans hW) ⟨_, _, _, rfl, (hn2 W (KKL.out.trans hW)).2⟩
                obtain ⟨BB, hBB⟩ : ∃ BB, decide (nodeB X1 = nodeB X2) = BB := ⟨_, rfl⟩
                have HSM : Hid (∀ W u v, Rd W u (nodeB X1) → Rd W v (nodeB X2) → Calls Tryz.prog 12 #[u, v] W fun e w' => e = .returned (.bool BB) ∧ W = w') := fun W u v hu hv => by
                  have := same_any u v (nodeB X1) (nodeB X2) W hu hv
                  rwa [hBB] at this
                have HSN : Hid (∀ W, Kp wL W → Calls Tryz.prog 20 #[.agg #[.int .i64 X1.kind, .int .i64 X1.name, .slice pa pn pc, .slice ua un uc, .slice qa qn qc], .agg #[.int .i64 X2.kind, .int .i64 X2.name, .slice pa2 pn2 pc2, .slice ua2 un2 uc2, .slice qa2 qn2 qc2]] W fun e w' => e = .returned (.bool BB) ∧ Kp W w') := fun W hW => by
                  refine (refSameNode_any _ _ X1 X2 W ⟨_, _, _, rfl, (hn1 W (KKL.out.trans hW)).2⟩ ⟨_, _, _, rfl, (hn2 W (KKL.out.trans hW)).2⟩).mono ?_
                  rintro _ w' ⟨⟨b, rfl, hb⟩, hk⟩
                  have e : b = BB := by
                    rw [Bool.eq_iff_iff, hb, ← hBB, decide_eq_true_eq]
                    exact ⟨congrArg nodeB, hin⟩
                  rw [e]
                  exact ⟨rfl, hk⟩
                have hbb : (BB != BB) = false := bne_self_eq_false BB
                have KDX : Hid (Kp wL wr.drew) := hkq.drew
                clear hn1 hn2 hin hq1 hq2 hX1 hX2 hBB hkq
                go_wp2_with fail
                refine wp_region_held_drew (S := fun W => (W.cell? ⟨bt, ot + y * 5, none⟩ = some (.int .i64 X1.kind) ∧ W.cell? ⟨bt, ot + y * 5 + 1, none⟩ = some (.int .i64 X1.name) ∧ W.cell? ⟨bt, ot + y * 5 + 2, none⟩ = some (.slice pa pn pc) ∧ W.cell? ⟨bt, ot + y * 5 + 3, none⟩ = some (.slice ua un uc) ∧ W.cell? ⟨bt, ot + y * 5 + 4, none⟩ = some (.slice qa qn qc)) ∧ (W.cell? ⟨bt, ot + z * 5, none⟩ = some (.int .i64 X2.kind) ∧ W.cell? ⟨bt, ot + z * 5 + 1, none⟩ = some (.int .i64 X2.name) ∧ W.cell? ⟨bt, ot + z * 5 + 2, none⟩ = some (.slice pa2 pn2 pc2) ∧ W.cell? ⟨bt, ot + z * 5 + 3, none⟩ = some (.slice ua2 un2 uc2) ∧ W.cell? ⟨bt, ot + z * 5 + 4, none⟩ = some (.slice qa2 qn2 qc2))) (by kernel_rfl) (HSS.out _ (by first | exact K14.out | exact K13.out | exact K12.out | exact KDX.out)) (fun hHeld => ?_)
                refine wpAnyH_take (i := 0) (oi := ⟨some 92, _, _, _, _, _⟩) (v := ?_) rfl (by kernel_rfl) (by kernel_rfl) (by kernel_rfl) (fun _ _ _ h => h) (Or.inl ⟨by kernel_rfl, ?_⟩) (by assumption) ?_
                rotate_left
                focus ((intro w hSw; (try dsimp only at hSw); go_simp); (try with_reducible rfl); done)
                simp only [Act.put, List.setIfInBounds_toArray, List.set_cons_zero, List.set_cons_succ]
                refine wpAnyH_take (i := 1) (oi := ⟨some 93, _, _, _, _, _⟩) (v := ?_) rfl (by kernel_rfl) (by kernel_rfl) (by kernel_rfl) (fun _ _ _ h => h) (Or.inl ⟨by kernel_rfl, ?_⟩) (by assumption) ?_
                rotate_left
                focus ((intro w hSw; (try dsimp only at hSw); go_simp); (try with_reducible rfl); done)
                simp only [Act.put, List.setIfInBounds_toArray, List.set_cons_zero, List.set_cons_succ]
                refine wpAnyH_take (i := 2) (oi := ⟨some 94, _, _, _, _, _⟩) (v := ?_) rfl (by kernel_rfl) (by kernel_rfl) (by kernel_rfl) (fun _ _ _ h => h) (Or.inl ⟨by kernel_rfl, ?_⟩) (by assumption) ?_
                rotate_left
                focus ((intro w hSw; (try dsimp only at hSw); go_simp); (try with_reducible rfl); done)
                simp only [Act.put, List.setIfInBounds_toArray, List.set_cons_zero, List.set_cons_succ]
                refine wpAnyH_take (i := 3) (oi := ⟨some 95, _, _, _, _, _⟩) (v := ?_) rfl (by kernel_rfl) (by kernel_rfl) (by kernel_rfl) (fun _ _ _ h => h) (Or.inl ⟨by kernel_rfl, ?_⟩) (by assumption) ?_
                rotate_left
                focus ((intro w hSw; (try dsimp only at hSw); go_simp); (try with_reducible rfl); done)
                simp only [Act.put, List.setIfInBounds_toArray, List.set_cons_zero, List.set_cons_succ]
                refine wpAnyH_take (i := 5) (oi := ⟨some 97, _, _, _, _, _⟩) (v := ?_) rfl (by kernel_rfl) (by kernel_rfl) (by kernel_rfl) (fun _ _ _ h => h) (Or.inl ⟨by kernel_rfl, ?_⟩) (by assumption) ?_
                rotate_left
                focus ((intro w hSw; (try dsimp only at hSw); go_simp); (try with_reducible rfl); done)
                simp only [Act.put, List.setIfInBounds_toArray, List.set_cons_zero, List.set_cons_succ]
                refine wpAnyH_take (i := 6) (oi := ⟨some 98, _, _, _, _, _⟩) (v := ?_) rfl (by kernel_rfl) (by kernel_rfl) (by kernel_rfl) (fun _ _ _ h => h) (Or.inl ⟨by kernel_rfl, ?_⟩) (by assumption) ?_
                rotate_left
                focus ((intro w hSw; (try dsimp only at hSw); go_simp); (try with_reducible rfl); done)
                simp only [Act.put, List.setIfInBounds_toArray, List.set_cons_zero, List.set_cons_succ]
                refine wpAnyH_take (i := 7) (oi := ⟨some 99, _, _, _, _, _⟩) (v := ?_) rfl (by kernel_rfl) (by kernel_rfl) (by kernel_rfl) (fun _ _ _ h => h) (Or.inl ⟨by kernel_rfl, ?_⟩) (by assumption) ?_
                rotate_left
                focus ((intro w hSw; (try dsimp only at hSw); go_simp); (try with_reducible rfl); done)
                simp only [Act.put, List.setIfInBounds_toArray, List.set_cons_zero, List.set_cons_succ]
                refine wpAnyH_take (i := 8) (oi := ⟨some 100, _, _, _, _, _⟩) (v := ?_) rfl (by kernel_rfl) (by kernel_rfl) (by kernel_rfl) (fun _ _ _ h => h) (Or.inl ⟨by kernel_rfl, ?_⟩) (by assumption) ?_
                rotate_left
                focus ((intro w hSw; (try dsimp only at hSw); go_simp); (try with_reducible rfl); done)
                simp only [Act.put, List.setIfInBounds_toArray, List.set_cons_zero, List.set_cons_succ]
                refine wpAnyH_take (i := 11) (oi := ⟨some 103, _, _, _, _, _⟩) (v := ?_) rfl (by kernel_rfl) (by kernel_rfl) (by kernel_rfl) (fun _ _ _ h => h) (Or.inl ⟨by kernel_rfl, ?_⟩) (by assumption) ?_
                rotate_left
                focus ((intro w hSw; (try dsimp only at hSw); go_simp); (try with_reducible rfl); done)
                simp only [Act.put, List.setIfInBounds_toArray, List.set_cons_zero, List.set_cons_succ]
                refine wpAnyH_take (i := 12) (oi := ⟨some 104, _, _, _, _, _⟩) (v := ?_) rfl (by kernel_rfl) (by kernel_rfl) (by kernel_rfl) (fun _ _ _ h => h) (Or.inl ⟨by kernel_rfl, ?_⟩) (by assumption) ?_
                rotate_left
                focus ((intro w hSw; (try dsimp only at hSw); go_simp); (try with_reducible rfl); done)
                simp only [Act.put, List.setIfInBounds_toArray, List.set_cons_zero, List.set_cons_succ]
                refine wpAnyH_take (i := 13) (oi := ⟨some 105, _, _, _, _, _⟩) (v := ?_) rfl (by kernel_rfl) (by kernel_rfl) (by kernel_rfl) (fun _ _ _ h => h) (Or.inl ⟨by kernel_rfl, ?_⟩) (by assumption) ?_
                rotate_left
                focus ((intro w hSw; (try dsimp only at hSw); go_simp); (try with_reducible rfl); done)
                simp only [Act.put, List.setIfInBounds_toArray, List.set_cons_zero, List.set_cons_succ]
                refine wpAnyH_take (i := 14) (oi := ⟨some 106, _, _, _, _, _⟩) (v := ?_) rfl (by kernel_rfl) (by kernel_rfl) (by kernel_rfl) (fun _ _ _ h => h) (Or.inl ⟨by kernel_rfl, ?_⟩) (by assumption) ?_
                rotate_left
                focus ((intro w hSw; (try dsimp only at hSw); go_simp); (try with_reducible rfl); done)
                simp only [Act.put, List.setIfInBounds_toArray, List.set_cons_zero, List.set_cons_succ]
                refine wpAnyH_take (i := 15) (oi := ⟨some 107, _, _, _, _, _⟩) (v := ?_) rfl (by kernel_rfl) (by kernel_rfl) (by kernel_rfl) (fun _ _ _ h => h) (Or.inl ⟨by kernel_rfl, ?_⟩) (by assumption) ?_
                rotate_left
                focus ((intro w hSw; (try dsimp only at hSw); go_simp); (try with_reducible rfl); done)
                simp only [Act.put, List.setIfInBounds_toArray, List.set_cons_zero, List.set_cons_succ]
                refine wpAnyH_take (i := 16) (oi := ⟨some 108, _, _, _, _, _⟩) (v := ?_) rfl (by kernel_rfl) (by kernel_rfl) (by kernel_rfl) (fun _ _ _ h => h) (Or.inl ⟨by kernel_rfl, ?_⟩) (by assumption) ?_
                rotate_left
                focus ((intro w hSw; (try dsimp only at hSw); go_simp); (try with_reducible rfl); done)
                simp only [Act.put, List.setIfInBounds_toArray, List.set_cons_zero, List.set_cons_succ]
                refine wpAnyH_take (i := 17) (oi := ⟨some 109, _, _, _, _, _⟩) (v := ?_) rfl (by kernel_rfl) (by kernel_rfl) (by kernel_rfl) (fun _ _ _ h => h) (Or.inl ⟨by kernel_rfl, ?_⟩) (by assumption) ?_
                rotate_left
                focus ((intro w hSw; (try dsimp only at hSw); go_simp); (try with_reducible rfl); done)
                simp only [Act.put, List.setIfInBounds_toArray, List.set_cons_zero, List.set_cons_succ]
                refine wpAnyH_take (i := 18) (oi := ⟨some 110, _, _, _, _, _⟩) (v := ?_) rfl (by kernel_rfl) (by kernel_rfl) (by kernel_rfl) (fun _ _ _ h => h) (Or.inl ⟨by kernel_rfl, ?_⟩) (by assumption) ?_
                rotate_left
                focus ((intro w hSw; (try dsimp only at hSw); go_simp); (try with_reducible rfl); done)
                simp only [Act.put, List.setIfInBounds_toArray, List.set_cons_zero, List.set_cons_succ]
                refine wpAnyH_ready (rs := [4]) (by kernel_rfl) (by simp) ?_
                refine AllReadyH.cons (o := ⟨some 96, _, _, _, _, _⟩) rfl (fun K hK => ?_) AllReadyH.nil
                go_simp
                go_at_call 13; refine (HC1.out _ KDX.out).mono ?_; rintro _ w12 ⟨⟨r12, rfl, o12⟩, k12⟩; have K12 := Lib.hid (KDX.out.trans k12); clear k12
                refine hK.out _ _ (HSS.out _ (by first | exact K14.out | exact K13.out | exact K12.out | exact KDX.out)) (fun hHeld => ?_)
                clear hK K
                try simp only [Act.put, List.setIfInBounds_toArray, List.set_cons_zero, List.set_cons_succ]
                refine wpAnyH_ready (rs := [9]) (by kernel_rfl) (by simp) ?_
                refine AllReadyH.cons (o := ⟨some 101, _, _, _, _, _⟩) rfl (fun K hK => ?_) AllReadyH.nil
                go_simp
                go_at_call 13; refine (HC2.out _ K12.out).mono ?_; rintro _ w13 ⟨⟨r13, rfl, o13⟩, k13⟩; have O13 := Lib.hid (And.intro (o12.kp k13) o13); have K13 := Lib.hid (K12.out.trans k13); clear k13 o12 o13
                refine hK.out _ _ (HSS.out _ (by first | exact K14.out | exact K13.out | exact K12.out | exact KDX.out)) (fun hHeld => ?_)
                clear hK K
                try simp only [Act.put, List.setIfInBounds_toArray, List.set_cons_zero, List.set_cons_succ]
                refine wpAnyH_ready (rs := [10]) (by kernel_rfl) (by simp) ?_
                refine AllReadyH.cons (o := ⟨some 102, _, _, _, _, _⟩) rfl (fun K hK => ?_) AllReadyH.nil
                go_simp
                go_at_call 12; refine (HSM.out _ _ _ O13.out.1 O13.out.2).mono ?_; rintro _ _ ⟨rfl, rfl⟩
                refine hK.out _ _ (HSS.out _ (by first | exact K14.out | exact K13.out | exact K12.out | exact KDX.out)) (fun hHeld => ?_)
                clear hK K
                try simp only [Act.put, List.setIfInBounds_toArray, List.set_cons_zero, List.set_cons_succ]
                refine wpAnyH_ready (rs := [19]) (by kernel_rfl) (by simp) ?_
                refine AllReadyH.cons (o := ⟨some 111, _, _, _, _, _⟩) rfl (fun K hK => ?_) AllReadyH.nil
                go_simp
                go_at_call 20; refine (HSN.out _ K13.out).mono ?_; rintro _ w14 ⟨rfl, k14⟩; have K14 := Lib.hid (K13.out.trans k14); clear k14
                refine hK.out _ _ (HSS.out _ (by first | exact K14.out | exact K13.out | exact K12.out | exact KDX.out)) (fun hHeld => ?_)
                clear hK K
                try simp only [Act.put, List.setIfInBounds_toArray, List.set_cons_zero, List.set_cons_succ]
                refine wpAnyH_take (i := 20) (oi := ⟨some 112, _, _, _, _, _⟩) (v := ?_) rfl (by kernel_rfl) (by kernel_rfl) (by kernel_rfl) (fun _ _ _ h => h) (Or.inl ⟨by kernel_rfl, ?_⟩) (by assumption) ?_
                rotate_left
                focus ((intro w hSw; (try dsimp only at hSw); go_simp); (try with_reducible rfl); done)
                simp only [Act.put, List.setIfInBounds_toArray, List.set_cons_zero, List.set_cons_succ]
                refine wpAnyH_done (by kernel_rfl) ?_ _
                have KE := K14
                clear HSS HC1 HC2 HSM HSN KDX K12 K13 K14 O13
                go_wp2_with fail
                go_roundw
                case rel => exact ⟨z + 1, by omega, by go_num, KE.out⟩
                case measure => simp [intOf]; omega
              · obtain rfl : z = N := by omega
                have hle : ¬ (z : Int) < (z : Int) := by omega
                clear hkq
                go_wp2_with fail
                go_roundw
                case rel => exact ⟨y + 1, by omega, by go_num, KQ.out⟩
                case measure => simp [intOf]; omega
          · obtain rfl : y = N := by omega
            have hle : ¬ (y : Int) < (y : Int) := by omega
            have KB := Lib.hid (KKL.out.trans KR.out)
            have HUB := Lib.hid (HUL.out.kp KR.out)
            clear hkp HNL HINJ HNC2 HNX
            go_wp2_with fail
            refine (HLV.out _ KB.out).mono ?_; rintro _ _ ⟨rfl, rfl⟩
            go_wp2_with fail
            refine (HPA.out _).mono ?_; rintro _ w20 ⟨⟨r20, rfl, o20⟩, k20⟩
            obtain ⟨a20, c20, rfl, _, _⟩ := (ON.rn o20).shape
            have P20 := Lib.hid (ON.rn o20)
            rw [HPL.out] at P20 ⊢
            have K20 := Lib.hid (KB.out.trans k20)
            have HU20 := Lib.hid (HUB.out.kp k20)
            clear o20 k20 HPA HLV
            go_wp2_with (at_builtin; refine wpList_append_ns (o := ⟨some 123, _, _, _, _, _⟩) S1n rfl _ _ rfl w20.heap.size _ [X] rfl (by exact own_lit1 w20 3 (iv X)) _ PL rfl (by exact P20.out.kp ((Kp.refl _).alloc _)) (by have := HPL.out; have := HL10.out; simp; omega) (by simp) ?_; intro v21 w21 o21 g21; have k21 := Kp.grown ((Kp.refl w20).alloc _) g21 (fun k hk => by cases hk; exact Nat.le_refl _); obtain ⟨aA, cA, hv21, _, _⟩ := (ON.rn o21).shape; rw [HAL.out] at hv21; subst hv21; have PA := Lib.hid (ON.rn o21); have K21 := Lib.hid k21; clear o21 g21 k21)
            have KC := Lib.hid (K20.out.trans K21.out)
            have HUC := Lib.hid (HU20.out.kp K21.out)
            clear K20 K21 HU20 P20 KB HUB KR
            go_loopw [17] (fun x wr => ∃ i : Nat, i ≤ LL ∧ x = .int .i64 (i : Int) ∧ (∀ i', i' < i → DT i' ≠ DU i') ∧ Kp w21 wr) (fun x _ => (LL - (intOf x).toNat))
            case atStart => exact ⟨0, Nat.zero_le _, rfl, fun i h => by omega, Kp.refl _⟩
            case round =>
              obtain ⟨i, hi, rfl, hpi, hkp⟩ := hrel
              have KR := Lib.hid hkp
              have hLL := HL10.out
              by_cases hlt : i < LL
              · have i1 : IntKind.i64.wrap ((i : Int) + 1) = (i : Int) + 1 := IntWalk.i64_in _ (by omega)
                have i3 : (i : Int) < (LL : Int) := by omega
                obtain ⟨gA, oA, eA, _, hcA⟩ := (PA.out.kp hkp).at i hlt
                subst eA
                have cc := hcA i hlt
                rw [HA.out i hlt] at cc
                have HCA : Hid (∀ W, Kp wr W → W.cell? ⟨gA, oA + i, none⟩ = some (.int .i64 ((A i : Nat) : Int))) := fun W hW => hW.cell cc
                have HTT1 := Lib.hid (fun W (hW : Kp w W) => HTT.out i W _ hlt (HT0.out.kp hW) (HTAB.out.kp hW))
                have HTU1 := Lib.hid (fun W (hW : Kp w21 W) => HTU.out i W _ hlt (HUC.out.kp hW) (HTAB.out.kp (KC.out.trans hW)))
                have HPT1 := Lib.hid (fun W (hW : Kp w W) => HPT.out i W _ hlt (HT0.out.kp hW))
                have HPU1 := Lib.hid (fun W (hW : Kp w21 W) => HPU.out i W _ hlt (HUC.out.kp hW))
                obtain ⟨dd1, dd2, dd3, dd4, dd5⟩ := HD.out i
                have hway := HW.out i hlt hpi
                have HPI := Lib.hid hpi
                have HDD := Lib.hid (And.intro dd1 (And.intro dd2 (And.intro dd3 (And.intro dd4 dd5))))
                have HWY := Lib.hid hway
                have HST : Hid (DT i ≠ DU i → ∀ i', i' < i + 1 → DT i' ≠ DU i') := fun h i' hi' => by
                  rcases Nat.lt_or_eq_of_le (Nat.lt_succ_iff.1 hi') with h3 | h3
                  · exact HPI.out i' h3
                  · rw [h3]; exact h
                clear hkp hpi hcA dd1 dd2 dd3 dd4 dd5 hway HTT HTU HPT HPU HD HW HA
                generalize A i = Y at *
                go_wp2_with fail
                refine (HTT1.out _ (KC.out.trans KR.out)).mono ?_; rintro _ w30 ⟨⟨r30, rfl, o30⟩, k30⟩
                obtain ⟨a30, c30, rfl, _, _⟩ := o30.shape
                have O30 := Lib.hid o30
                rw [HDD.out.2.2.1] at O30 ⊢
                have K30 := Lib.hid (KR.out.trans k30)
                have cc := HCA.out w30 k30
                have HR30 := Lib.hid k30
                clear o30 k30 HTT1
                go_wp2_with fail
                refine (HTU1.out _ K30.out).mono ?_; rintro _ w31 ⟨⟨r31, rfl, o31⟩, k31⟩
                obtain ⟨a31, n31, c31, rfl⟩ := rd_slH o31
                have O31 := Lib.hid (And.intro (O30.out.kp k31) o31)
                have K31 := Lib.hid (K30.out.trans k31)
                have HR31 := Lib.hid (HR30.out.trans k31)
                have cc := HCA.out w31 HR31.out
                clear o31 k31 HTU1 O30 HR30 K30
                go_wp2_with fail
                refine (same_any _ _ (DT i) (DU i) w31 O31.out.1 O31.out.2).mono ?_; rintro _ _ ⟨rfl, rfl⟩
                by_cases hEQ : DT i = DU i
                · rw [decide_eq_true hEQ]
                  have hEQ2 : digest (PT i) = digest (PU i) := by rw [← HDD.out.1, ← HDD.out.2.1]; exact hEQ
                  have HS1 : Hid (∀ W u v, Rd W u (PT i) → Rd W v (PU i) → Calls Tryz.prog 12 #[u, v] W fun e w' => e = .returned (.bool false) ∧ W = w') := fun W u v hu hv => by
                    have := same_any u v (PT i) (PU i) W hu hv
                    rwa [decide_eq_false HWY.out] at this
                  have HS2 : Hid (∀ W u v, Rd W u (digest (PT i)) → Rd W v (digest (PU i)) → Calls Tryz.prog 12 #[u, v] W fun e w' => e = .returned (.bool true) ∧ W = w') := fun W u v hu hv => by
                    have := same_any u v _ _ W hu hv
                    rwa [decide_eq_true hEQ2] at this
                  have HG1 := Lib.hid (fun W u (hu : Rd W u (PT i)) => refSum_any u (PT i) W hu (by have := HDD.out.2.2.2.1; omega))
                  have HG2 := Lib.hid (fun W u (hu : Rd W u (PU i)) => refSum_any u (PU i) W hu (by have := HDD.out.2.2.2.2; omega))
                  clear hEQ hEQ2 HST HPI O31 HDD HWY
                  generalize digest (PT i) = G1 at *
                  generalize digest (PU i) = G2 at *
                  generalize PT i = P1' at *
                  generalize PU i = P2' at *
                  go_wp2_with fail
                  refine (HPT1.out _ (KC.out.trans K31.out)).mono ?_; rintro _ w32 ⟨⟨r32, rfl, o32⟩, k32⟩
                  obtain ⟨a32, n32, c32, rfl⟩ := rd_slH o32
                  have O32 := Lib.hid o32
                  have K32 := Lib.hid (K31.out.trans k32)
                  have cc := HCA.out w32 (HR31.out.trans k32)
                  clear o32 k32 HPT1
                  go_wp2_with fail
                  refine (HPU1.out _ K32.out).mono ?_; rintro _ w33 ⟨⟨r33, rfl, o33⟩, k33⟩
                  obtain ⟨a33, n33, c33, rfl⟩ := rd_slH o33
                  have O33 := Lib.hid (And.intro (O32.out.kp k33) o33)
                  have K33 := Lib.hid (K32.out.trans k33)
                  clear o33 k33 HPU1 O32
                  go_wp2_with fail
                  refine (HS1.out _ _ _ O33.out.1 O33.out.2).mono ?_; rintro _ _ ⟨rfl, rfl⟩
                  go_wp2_with fail
                  refine (HG1.out _ _ O33.out.1).mono ?_; rintro _ w34 ⟨⟨r34, rfl, o34⟩, k34⟩
                  have O34 := Lib.hid (And.intro (O33.out.2.kp k34) o34)
                  have K34 := Lib.hid (K33.out.trans k34)
                  clear o34 k34 HG1 O33 HS1
                  go_wp2_with fail
                  refine (HG2.out _ _ O34.out.1).mono ?_; rintro _ w35 ⟨⟨r35, rfl, o35⟩, k35⟩
                  have O35 := Lib.hid (And.intro (O34.out.2.kp k35) o35)
                  have K35 := Lib.hid (K34.out.trans k35)
                  clear o35 k35 HG2 O34
                  go_wp2_with fail
                  refine (HS2.out _ _ _ O35.out.1 O35.out.2).mono ?_; rintro _ _ ⟨rfl, rfl⟩
                  go_wp2_with fail
                  go_ret
                  exact ⟨by simp, KC.out.trans K35.out⟩
                · rw [decide_eq_false hEQ]
                  have HST2 := Lib.hid (HST.out hEQ)
                  clear hEQ HST HPI O31 HDD HWY HPT1 HPU1
                  go_wp2_with fail
                  go_roundw
                  case rel => exact ⟨i + 1, by omega, by go_num, HST2.out, K31.out⟩
                  case measure => simp [intOf]; omega
              · obtain rfl : i = LL := by omega
                have hle3 : ¬ (i : Int) < (i : Int) := by omega
                clear hkp
                go_wp2_with fail
                go_ret
                exact ⟨by simp, KC.out.trans KR.out⟩
theorem hashApart_int (vt : Value) (t : List Nod) (a b : Int) (w : World) (ht : NL w vt t) (ha : 0 ≤ a ∧ a ≤ 255) (hb : 0 ≤ b ∧ b ≤ 255) (hT : Tab w) :
    Calls Tryz.prog 5 #[vt, .int .u8 a, .int .u8 b] w (Yes w) := by
  obtain ⟨i, rfl⟩ := Int.eq_ofNat_of_zero_le ha.1
  obtain ⟨n, rfl⟩ := Int.eq_ofNat_of_zero_le hb.1
  have e : ((n : Nat) : Int) = ((UInt8.ofNat n).toNat : Int) := by
    have : (UInt8.ofNat n).toNat = n := by simp; omega
    rw [this]
  rw [e]
  exact hashApart_walk vt t i (UInt8.ofNat n) w ht (by omega) hT
end Go.Proofs.YtobldbodafaajaaGreatDoor
