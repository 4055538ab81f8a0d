/- (*aes.state).mix. -/
import Derived.Test.YtdcbljfacmidjaaGreatAesA
set_option linter.unusedVariables false
set_option linter.unusedSimpArgs false
namespace Go.Proofs.YtdcbljfacmidjaaGreat
open Go.RowKit

set_option maxRecDepth 100000 in
set_option maxHeartbeats 4000000 in
theorem mixState_any (gs : Nat) (s : List UInt8) (w : World) (hs : s.length = 16) (hB : By 68 w gs s) :
    Calls Tryz.prog 70 #[.pointer (some ⟨gs, 0, none⟩)] w fun e w' => e = .returned (.tuple #[]) ∧ By 68 w' gs (mixS s) ∧ Wr gs w w' := by
  have H0 := Lib.hid (MixTo.begin hs)
  have HN := Lib.hid (fun l n h hn a b c d => MixTo.next (t := s) (l := l) (n := n) h hn a b c d)
  have HA := Lib.hid (fun l (h : MixTo s (4 * 4) l) => h.all)
  generalize mixS s = X at *
  go_enter Tryz.func70, Tryz.ntmps70
  go_wp2_with fail
  go_loopw [2] (fun p wr => ∃ (n : Nat) (l : List UInt8), n ≤ 4 ∧ p = .int .i64 (4 * n : Nat) ∧ Hid (MixTo s (4 * n) l) ∧ By 68 wr gs l ∧ Wr gs w wr) (fun p _ => 16 - (intOf p).toNat)
  case atStart => exact ⟨0, s, by omega, rfl, H0, hB, Wr.refl _ _⟩
  case round =>
    clear hB H0
    obtain ⟨n, l, hn, rfl, HM, hB, hw⟩ := hrel
    by_cases hlt : n < 4
    · have hl := HM.out.1
      have g0 : l.getD (4 * n) 0 = s.getD (4 * n) 0 := by rw [HM.out.2 _ (by omega), if_neg (by omega)]
      have g1 : l.getD (4 * n + 1) 0 = s.getD (4 * n + 1) 0 := by rw [HM.out.2 _ (by omega), if_neg (by omega)]
      have g2 : l.getD (4 * n + 2) 0 = s.getD (4 * n + 2) 0 := by rw [HM.out.2 _ (by omega), if_neg (by omega)]
      have g3 : l.getD (4 * n + 3) 0 = s.getD (4 * n + 3) 0 := by rw [HM.out.2 _ (by omega), if_neg (by omega)]
      have c0 := hB.cell (4 * n) (by omega)
      have c1 := hB.cell (4 * n + 1) (by omega)
      have c2 := hB.cell (4 * n + 2) (by omega)
      have c3 := hB.cell (4 * n + 3) (by omega)
      have f0 := hB.frozen (4 * n)
      rw [g0] at c0
      rw [g1] at c1
      rw [g2] at c2
      rw [g3] at c3
      obtain ⟨a, ha⟩ : ∃ a, s.getD (4 * n) 0 = a := ⟨_, rfl⟩
      obtain ⟨b, hb⟩ : ∃ b, s.getD (4 * n + 1) 0 = b := ⟨_, rfl⟩
      obtain ⟨c, hc⟩ : ∃ c, s.getD (4 * n + 2) 0 = c := ⟨_, rfl⟩
      obtain ⟨d, hd⟩ : ∃ d, s.getD (4 * n + 3) 0 = d := ⟨_, rfl⟩
      have HT := Lib.hid (HN.out l n HM.out hlt a b c d ha hb hc hd)
      rw [ha] at c0
      rw [hb] at c1
      rw [hc] at c2
      rw [hd] at c3
      have hN : n < 4 := hlt
      have q : ((4 * n : Nat) : Int) < 16 := by omega
      obtain ⟨i, hi⟩ : ∃ i, 4 * n = i := ⟨_, rfl⟩
      rw [hi] at q c0 c1 c2 c3 f0 HT ⊢
      have hi16 : i + 3 < 16 := by omega
      have i1 : IntKind.i64.wrap ((i : Int) + 1) = (i : Int) + 1 := IntWalk.i64_in _ (by omega)
      have i2 : IntKind.i64.wrap ((i : Int) + 2) = (i : Int) + 2 := IntWalk.i64_in _ (by omega)
      have i3 : IntKind.i64.wrap ((i : Int) + 3) = (i : Int) + 3 := IntWalk.i64_in _ (by omega)
      have q1 : (i : Int) + 1 < 16 := by omega
      have q2 : (i : Int) + 2 < 16 := by omega
      have q3 : (i : Int) + 3 < 16 := by omega
      have t1 : ((i : Int) + 1).toNat = i + 1 := by omega
      have t2 : ((i : Int) + 2).toNat = i + 2 := by omega
      have t3 : ((i : Int) + 3).toNat = i + 3 := by omega
      have HI := Lib.hid hi
      have p1 : (0 : Int) ≤ (i : Int) + 1 := by omega
      have p2 : (0 : Int) ≤ (i : Int) + 2 := by omega
      have p3 : (0 : Int) ≤ (i : Int) + 3 := by omega
      obtain ⟨m1, m2, m3⟩ := mix_all a b c d
      have m0 := mix_code a b c d
      have x1 := b8_xor a b
      have x2 := b8_xor (a ^^^ b) c
      have x3 := b8_xor (a ^^^ b ^^^ c) d
      have x4 := b8_xor b c
      have x5 := b8_xor c d
      have x6 := b8_xor d a
      have y0 := b8_xor (a ^^^ b ^^^ c ^^^ d) (mulB (a ^^^ b) 2)
      have y1 := b8_xor (a ^^^ b ^^^ c ^^^ d) (mulB (b ^^^ c) 2)
      have y2 := b8_xor (a ^^^ b ^^^ c ^^^ d) (mulB (c ^^^ d) 2)
      have y3 := b8_xor (a ^^^ b ^^^ c ^^^ d) (mulB (d ^^^ a) 2)
      have z0 := b8_xor a (a ^^^ b ^^^ c ^^^ d ^^^ mulB (a ^^^ b) 2)
      have z1 := b8_xor b (a ^^^ b ^^^ c ^^^ d ^^^ mulB (b ^^^ c) 2)
      have z2 := b8_xor c (a ^^^ b ^^^ c ^^^ d ^^^ mulB (c ^^^ d) 2)
      have z3 := b8_xor d (a ^^^ b ^^^ c ^^^ d ^^^ mulB (d ^^^ a) 2)
      rw [← m0] at z0
      rw [← m1] at z1
      rw [← m2] at z2
      rw [← m3] at z3
      have d0 := Lib.hid (fun W => double_any (a ^^^ b) W)
      have d1 := Lib.hid (fun W => double_any (b ^^^ c) W)
      have d2 := Lib.hid (fun W => double_any (c ^^^ d) W)
      have d3 := Lib.hid (fun W => double_any (d ^^^ a) W)
      clear m0 m1 m2 m3
      generalize mix4 a b c d = A at *
      generalize mix4 b c d a = B at *
      generalize mix4 c d a b = C at *
      generalize mix4 d a b c = D at *
      generalize a ^^^ b ^^^ c ^^^ d ^^^ mulB (a ^^^ b) 2 = E0 at *
      generalize a ^^^ b ^^^ c ^^^ d ^^^ mulB (b ^^^ c) 2 = E1 at *
      generalize a ^^^ b ^^^ c ^^^ d ^^^ mulB (c ^^^ d) 2 = E2 at *
      generalize a ^^^ b ^^^ c ^^^ d ^^^ mulB (d ^^^ a) 2 = E3 at *
      generalize mulB (a ^^^ b) 2 = D0 at *
      generalize mulB (b ^^^ c) 2 = D1 at *
      generalize mulB (c ^^^ d) 2 = D2 at *
      generalize mulB (d ^^^ a) 2 = D3 at *
      generalize a ^^^ b ^^^ c ^^^ d = F at *
      generalize a ^^^ b ^^^ c = G at *
      generalize a ^^^ b = X0 at *
      generalize b ^^^ c = X1 at *
      generalize c ^^^ d = X2 at *
      generalize d ^^^ a = X3 at *
      have P1 := Lib.hid (And.intro x4 (And.intro y1 (And.intro z1 (And.intro i1 (And.intro q1 (And.intro t1 p1))))))
      have P2 := Lib.hid (And.intro x5 (And.intro y2 (And.intro z2 (And.intro i2 (And.intro q2 (And.intro t2 p2))))))
      have P3 := Lib.hid (And.intro x6 (And.intro y3 (And.intro z3 (And.intro i3 (And.intro q3 (And.intro t3 p3))))))
      have PX := Lib.hid (And.intro x1 (And.intro x2 x3))
      have P0 := Lib.hid (And.intro y0 z0)
      have HF := Lib.hid f0
      clear g0 g1 g2 g3 ha hb hc hd hN hi HM x1 x2 x3 x4 x5 x6 y0 y1 y2 y3 z0 z1 z2 z3 f0
      go_wp2_with fail
      go_region
      obtain ⟨x1, x2, x3⟩ := PX.out
      clear i1 i2 i3 p1 p2 p3 t1 t2 t3 q1 q2 q3
      have C1 := Lib.hid c1
      have C2 := Lib.hid c2
      have C3 := Lib.hid c3
      clear c1 c2 c3
      go_wp2_with fail
      have f0 := HF.out
      obtain ⟨y0, z0⟩ := P0.out
      clear x2 x3
      apply later
      case ways =>
        intro key
        go_region_with (go_at_call 66; refine (d0.out _).mono ?_; rintro _ _ ⟨rfl, rfl⟩)
        all_goals exact key.out
      case rest =>
        constructor
        have hB1 : By 68 ((wr.setCell ⟨gs, i, none⟩ (.int .u8 (A.toNat : Int))).drew.drew) gs (l.set i A) := hB.set (i) A rfl
        have hw1 : Wr gs w ((wr.setCell ⟨gs, i, none⟩ (.int .u8 (A.toNat : Int))).drew.drew) := ((hw.setCell (i) _).drew).drew
        have C11 : Hid (((wr.setCell ⟨gs, i, none⟩ (.int .u8 (A.toNat : Int))).drew.drew).cell? ⟨gs, i + 1, none⟩ = some (.int .u8 (b.toNat : Int))) := (World.cell?_setCell_other _ _ _ _ (by simp)).trans C1.out
        have C21 : Hid (((wr.setCell ⟨gs, i, none⟩ (.int .u8 (A.toNat : Int))).drew.drew).cell? ⟨gs, i + 2, none⟩ = some (.int .u8 (c.toNat : Int))) := (World.cell?_setCell_other _ _ _ _ (by simp)).trans C2.out
        have C31 : Hid (((wr.setCell ⟨gs, i, none⟩ (.int .u8 (A.toNat : Int))).drew.drew).cell? ⟨gs, i + 3, none⟩ = some (.int .u8 (d.toNat : Int))) := (World.cell?_setCell_other _ _ _ _ (by simp)).trans C3.out
        generalize (wr.setCell ⟨gs, i, none⟩ (.int .u8 (A.toNat : Int))).drew.drew = W1 at *
        have c1 := C11.out
        have f1 := hB1.frozen (i + 1)
        obtain ⟨xx1, yy1, zz1, ii1, qq1, tt1, pp1⟩ := P1.out
        clear hB hw x1 y0 z0 c0 f0
        go_wp2_with fail
        apply later
        case ways =>
          intro key
          go_region_with (go_at_call 66; refine (d1.out _).mono ?_; rintro _ _ ⟨rfl, rfl⟩)
          all_goals exact key.out
        case rest =>
          constructor
          have hB2 : By 68 ((W1.setCell ⟨gs, i + 1, none⟩ (.int .u8 (B.toNat : Int))).drew) gs ((l.set i A).set (i + 1) B) := hB1.set (i + 1) B rfl
          have hw2 : Wr gs w ((W1.setCell ⟨gs, i + 1, none⟩ (.int .u8 (B.toNat : Int))).drew) := (hw1.setCell (i + 1) _).drew
          have C22 : Hid (((W1.setCell ⟨gs, i + 1, none⟩ (.int .u8 (B.toNat : Int))).drew).cell? ⟨gs, i + 2, none⟩ = some (.int .u8 (c.toNat : Int))) := (World.cell?_setCell_other _ _ _ _ (by simp)).trans C21.out
          have C32 : Hid (((W1.setCell ⟨gs, i + 1, none⟩ (.int .u8 (B.toNat : Int))).drew).cell? ⟨gs, i + 3, none⟩ = some (.int .u8 (d.toNat : Int))) := (World.cell?_setCell_other _ _ _ _ (by simp)).trans C31.out
          generalize (W1.setCell ⟨gs, i + 1, none⟩ (.int .u8 (B.toNat : Int))).drew = W2 at *
          have c2 := C22.out
          have f2 := hB2.frozen (i + 2)
          obtain ⟨xx2, yy2, zz2, ii2, qq2, tt2, pp2⟩ := P2.out
          clear hB1 hw1 c1 f1 xx1 yy1 zz1 ii1 qq1 tt1 pp1
          go_wp2_with fail
          apply later
          case ways =>
            intro key
            go_region_with (go_at_call 66; refine (d2.out _).mono ?_; rintro _ _ ⟨rfl, rfl⟩)
            all_goals exact key.out
          case rest =>
            constructor
            have hB3 : By 68 ((W2.setCell ⟨gs, i + 2, none⟩ (.int .u8 (C.toNat : Int))).drew) gs (((l.set i A).set (i + 1) B).set (i + 2) C) := hB2.set (i + 2) C rfl
            have hw3 : Wr gs w ((W2.setCell ⟨gs, i + 2, none⟩ (.int .u8 (C.toNat : Int))).drew) := (hw2.setCell (i + 2) _).drew
            have C33 : Hid (((W2.setCell ⟨gs, i + 2, none⟩ (.int .u8 (C.toNat : Int))).drew).cell? ⟨gs, i + 3, none⟩ = some (.int .u8 (d.toNat : Int))) := (World.cell?_setCell_other _ _ _ _ (by simp)).trans C32.out
            generalize (W2.setCell ⟨gs, i + 2, none⟩ (.int .u8 (C.toNat : Int))).drew = W3 at *
            have c3 := C33.out
            have f3 := hB3.frozen (i + 3)
            obtain ⟨xx3, yy3, zz3, ii3, qq3, tt3, pp3⟩ := P3.out
            clear hB2 hw2 c2 f2 xx2 yy2 zz2 ii2 qq2 tt2 pp2
            go_wp2_with fail
            apply later
            case ways =>
              intro key
              go_region_with (go_at_call 66; refine (d3.out _).mono ?_; rintro _ _ ⟨rfl, rfl⟩)
              all_goals exact key.out
            case rest =>
              constructor
              have hB4 : By 68 ((W3.setCell ⟨gs, i + 3, none⟩ (.int .u8 (D.toNat : Int))).drew) gs ((((l.set i A).set (i + 1) B).set (i + 2) C).set (i + 3) D) := hB3.set (i + 3) D rfl
              have hw4 : Wr gs w ((W3.setCell ⟨gs, i + 3, none⟩ (.int .u8 (D.toNat : Int))).drew) := (hw3.setCell (i + 3) _).drew
              generalize (W3.setCell ⟨gs, i + 3, none⟩ (.int .u8 (D.toNat : Int))).drew = W4 at *
              have i4 : IntKind.i64.wrap ((i : Int) + 4) = ((4 * (n + 1) : Nat) : Int) := by rw [IntWalk.i64_in _ (by omega), ← HI.out]; omega
              go_wp2_with fail
              go_roundw
              case rel => exact ⟨n + 1, _, by omega, rfl, HT, hB4, hw4⟩
              case measure => have hI := HI.out; simp [intOf]; omega
    · obtain rfl : n = 4 := by omega
      have hx := HA.out l HM.out
      rw [hx] at hB
      go_wp2_with fail
      go_end0
      exact ⟨rfl, hB, hw⟩
end Go.Proofs.YtdcbljfacmidjaaGreat
