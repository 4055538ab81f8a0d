import Derived.Test.YtbhkdlpdolioaaaQ31
import Derived.Test.YtbhkdlpdolioaaaQ32
import Derived.Test.YtbhkdlpdolioaaaQ36
set_option linter.unusedVariables false
set_option linter.unusedSimpArgs false
namespace Go.Proofs.Ytbhkdlpdolioaaa
open Go.RowKit
theorem aes (v0 v1 v2 v3 v4 : Value) (E : Eps) (w : World) (h : EV w v0 v1 v2 v3 v4 E) (h0 : E.i.length = 32) (h1 : E.s.length = 32) (h2 : E.x.length = 32) (h3 : E.c.length = 32) (h4 : E.r.length = 32) :
  Calls Try.prog 32 #[.agg #[v0, v1, v2, v3, v4]] w fun e w' => e = .returned (.bool true) ∧ Kp w w' := by
 obtain ⟨a0, c0, rfl, _, _⟩ := h.1.shape;obtain ⟨a1, c1, rfl, _, _⟩ := h.2.1.shape;obtain ⟨a2, c2, rfl, _, _⟩ := h.2.2.1.shape;obtain ⟨a3, c3, rfl, _, _⟩ := h.2.2.2.1.shape;obtain ⟨a4, c4, rfl, _, _⟩ := h.2.2.2.2.shape;rw [h0];rw [h1];rw [h2];rw [h3];rw [h4];clear h;go_enter Try.func32, Try.ntmps32;go_wp2_with fail;go_ret;exact ⟨rfl, (Kp.refl _).alloc _⟩
theorem aet (v0 v1 v2 v3 v4 : Value) (E : Eps) (w : World) (h : EV w v0 v1 v2 v3 v4 E) (h0 : E.i.length = 32) (h1 : E.s.length = 32) (h2 : E.x.length = 32) (h3 : E.c.length = 32) (h4 : ¬ E.r.length = 32) :
  Calls Try.prog 32 #[.agg #[v0, v1, v2, v3, v4]] w fun e w' => e = .returned (.bool false) ∧ Kp w w' := by
 obtain ⟨a0, c0, rfl, _, _⟩ := h.1.shape;obtain ⟨a1, c1, rfl, _, _⟩ := h.2.1.shape;obtain ⟨a2, c2, rfl, _, _⟩ := h.2.2.1.shape;obtain ⟨a3, c3, rfl, _, _⟩ := h.2.2.2.1.shape;obtain ⟨a4, c4, rfl, _, _⟩ := h.2.2.2.2.shape;rw [h0];rw [h1];rw [h2];rw [h3];have d4 : ((E.r.length : Int) == 32) = false := beq_eq_false_iff_ne.2 (by omega);clear h;go_enter Try.func32, Try.ntmps32;go_wp2_with fail;go_ret;exact ⟨rfl, (Kp.refl _).alloc _⟩
theorem aeu (v0 v1 v2 v3 v4 : Value) (E : Eps) (w : World) (h : EV w v0 v1 v2 v3 v4 E) (h0 : E.i.length = 32) (h1 : E.s.length = 32) (h2 : E.x.length = 32) (h3 : ¬ E.c.length = 32) :
  Calls Try.prog 32 #[.agg #[v0, v1, v2, v3, v4]] w fun e w' => e = .returned (.bool false) ∧ Kp w w' := by
 obtain ⟨a0, c0, rfl, _, _⟩ := h.1.shape;obtain ⟨a1, c1, rfl, _, _⟩ := h.2.1.shape;obtain ⟨a2, c2, rfl, _, _⟩ := h.2.2.1.shape;obtain ⟨a3, c3, rfl, _, _⟩ := h.2.2.2.1.shape;obtain ⟨a4, c4, rfl, _, _⟩ := h.2.2.2.2.shape;rw [h0];rw [h1];rw [h2];have d3 : ((E.c.length : Int) == 32) = false := beq_eq_false_iff_ne.2 (by omega);clear h;go_enter Try.func32, Try.ntmps32;go_wp2_with fail;go_ret;exact ⟨rfl, (Kp.refl _).alloc _⟩
theorem aev (v0 v1 v2 v3 v4 : Value) (E : Eps) (w : World) (h : EV w v0 v1 v2 v3 v4 E) (h0 : E.i.length = 32) (h1 : E.s.length = 32) (h2 : ¬ E.x.length = 32) :
  Calls Try.prog 32 #[.agg #[v0, v1, v2, v3, v4]] w fun e w' => e = .returned (.bool false) ∧ Kp w w' := by
 obtain ⟨a0, c0, rfl, _, _⟩ := h.1.shape;obtain ⟨a1, c1, rfl, _, _⟩ := h.2.1.shape;obtain ⟨a2, c2, rfl, _, _⟩ := h.2.2.1.shape;obtain ⟨a3, c3, rfl, _, _⟩ := h.2.2.2.1.shape;obtain ⟨a4, c4, rfl, _, _⟩ := h.2.2.2.2.shape;rw [h0];rw [h1];have d2 : ((E.x.length : Int) == 32) = false := beq_eq_false_iff_ne.2 (by omega);clear h;go_enter Try.func32, Try.ntmps32;go_wp2_with fail;go_ret;exact ⟨rfl, (Kp.refl _).alloc _⟩
theorem aew (v0 v1 v2 v3 v4 : Value) (E : Eps) (w : World) (h : EV w v0 v1 v2 v3 v4 E) (h0 : E.i.length = 32) (h1 : ¬ E.s.length = 32) :
  Calls Try.prog 32 #[.agg #[v0, v1, v2, v3, v4]] w fun e w' => e = .returned (.bool false) ∧ Kp w w' := by
 obtain ⟨a0, c0, rfl, _, _⟩ := h.1.shape;obtain ⟨a1, c1, rfl, _, _⟩ := h.2.1.shape;obtain ⟨a2, c2, rfl, _, _⟩ := h.2.2.1.shape;obtain ⟨a3, c3, rfl, _, _⟩ := h.2.2.2.1.shape;obtain ⟨a4, c4, rfl, _, _⟩ := h.2.2.2.2.shape;rw [h0];have d1 : ((E.s.length : Int) == 32) = false := beq_eq_false_iff_ne.2 (by omega);clear h;go_enter Try.func32, Try.ntmps32;go_wp2_with fail;go_ret;exact ⟨rfl, (Kp.refl _).alloc _⟩
theorem aex (v0 v1 v2 v3 v4 : Value) (E : Eps) (w : World) (h : EV w v0 v1 v2 v3 v4 E)  (h0 : ¬ E.i.length = 32) :
  Calls Try.prog 32 #[.agg #[v0, v1, v2, v3, v4]] w fun e w' => e = .returned (.bool false) ∧ Kp w w' := by
 obtain ⟨a0, c0, rfl, _, _⟩ := h.1.shape;obtain ⟨a1, c1, rfl, _, _⟩ := h.2.1.shape;obtain ⟨a2, c2, rfl, _, _⟩ := h.2.2.1.shape;obtain ⟨a3, c3, rfl, _, _⟩ := h.2.2.2.1.shape;obtain ⟨a4, c4, rfl, _, _⟩ := h.2.2.2.2.shape;have d0 : ((E.i.length : Int) == 32) = false := beq_eq_false_iff_ne.2 (by omega);clear h;go_enter Try.func32, Try.ntmps32;go_wp2_with fail;go_ret;exact ⟨rfl, (Kp.refl _).alloc _⟩
theorem abp (v0 v1 v2 v3 v4 : Value) (E : Eps) (w : World) (h : EV w v0 v1 v2 v3 v4 E) :
  Calls Try.prog 32 #[.agg #[v0, v1, v2, v3, v4]] w fun e w' => e = .returned (.bool (decide E.ok)) ∧ Kp w w' := by
 by_cases h0 : E.i.length = 32
 ·by_cases h1 : E.s.length = 32
  ·by_cases h2 : E.x.length = 32
   ·by_cases h3 : E.c.length = 32
    ·by_cases h4 : E.r.length = 32
     ·rw [decide_eq_true (show E.ok from ⟨h0, h1, h2, h3, h4⟩)]
      exact aes v0 v1 v2 v3 v4 E w h h0 h1 h2 h3 h4
     ·rw [decide_eq_false fun q : E.ok => h4 q.2.2.2.2]
      exact aet v0 v1 v2 v3 v4 E w h h0 h1 h2 h3 (by omega)
    ·rw [decide_eq_false fun q : E.ok => h3 q.2.2.2.1]
     exact aeu v0 v1 v2 v3 v4 E w h h0 h1 h2 (by omega)
   ·rw [decide_eq_false fun q : E.ok => h2 q.2.2.1]
    exact aev v0 v1 v2 v3 v4 E w h h0 h1 (by omega)
  ·rw [decide_eq_false fun q : E.ok => h1 q.2.1]
   exact aew v0 v1 v2 v3 v4 E w h h0 (by omega)
 ·rw [decide_eq_false fun q : E.ok => h0 q.1]
  exact aex v0 v1 v2 v3 v4 E w h  (by omega)
theorem afC (v0 v1 v2 v3 v4 : Value) (E : Eps) (w : World) (h : EV w v0 v1 v2 v3 v4 E) (h0 : E.i.length ≤ 40) (h1 : E.s.length ≤ 40) (h2 : E.x.length ≤ 40) (h3 : E.c.length ≤ 40) (h4 : E.r.length ≤ 40) :
  Calls Try.prog 22 #[.agg #[v0, v1, v2, v3, v4]] w fun e w' => e = .returned (.bool true) ∧ Kp w w' := by
 obtain ⟨a0, c0, rfl, _, _⟩ := h.1.shape;obtain ⟨a1, c1, rfl, _, _⟩ := h.2.1.shape;obtain ⟨a2, c2, rfl, _, _⟩ := h.2.2.1.shape;obtain ⟨a3, c3, rfl, _, _⟩ := h.2.2.2.1.shape;obtain ⟨a4, c4, rfl, _, _⟩ := h.2.2.2.2.shape;have d0 : (E.i.length : Int) ≤ 40 := by omega
 have d1 : (E.s.length : Int) ≤ 40 := by omega
 have d2 : (E.x.length : Int) ≤ 40 := by omega
 have d3 : (E.c.length : Int) ≤ 40 := by omega
 have d4 : (E.r.length : Int) ≤ 40 := by omega
 clear h;go_enter Try.func22, Try.ntmps22;go_wp2_with fail;go_ret;exact ⟨rfl, (Kp.refl _).alloc _⟩
theorem afD (v0 v1 v2 v3 v4 : Value) (E : Eps) (w : World) (h : EV w v0 v1 v2 v3 v4 E) (h0 : E.i.length ≤ 40) (h1 : E.s.length ≤ 40) (h2 : E.x.length ≤ 40) (h3 : E.c.length ≤ 40) (h4 : ¬ E.r.length ≤ 40) :
  Calls Try.prog 22 #[.agg #[v0, v1, v2, v3, v4]] w fun e w' => e = .returned (.bool false) ∧ Kp w w' := by
 obtain ⟨a0, c0, rfl, _, _⟩ := h.1.shape;obtain ⟨a1, c1, rfl, _, _⟩ := h.2.1.shape;obtain ⟨a2, c2, rfl, _, _⟩ := h.2.2.1.shape;obtain ⟨a3, c3, rfl, _, _⟩ := h.2.2.2.1.shape;obtain ⟨a4, c4, rfl, _, _⟩ := h.2.2.2.2.shape;have d0 : (E.i.length : Int) ≤ 40 := by omega
 have d1 : (E.s.length : Int) ≤ 40 := by omega
 have d2 : (E.x.length : Int) ≤ 40 := by omega
 have d3 : (E.c.length : Int) ≤ 40 := by omega
 have d4 : ¬ (E.r.length : Int) ≤ 40 := by omega
 clear h;go_enter Try.func22, Try.ntmps22;go_wp2_with fail;go_ret;exact ⟨rfl, (Kp.refl _).alloc _⟩
theorem afE (v0 v1 v2 v3 v4 : Value) (E : Eps) (w : World) (h : EV w v0 v1 v2 v3 v4 E) (h0 : E.i.length ≤ 40) (h1 : E.s.length ≤ 40) (h2 : E.x.length ≤ 40) (h3 : ¬ E.c.length ≤ 40) :
  Calls Try.prog 22 #[.agg #[v0, v1, v2, v3, v4]] w fun e w' => e = .returned (.bool false) ∧ Kp w w' := by
 obtain ⟨a0, c0, rfl, _, _⟩ := h.1.shape;obtain ⟨a1, c1, rfl, _, _⟩ := h.2.1.shape;obtain ⟨a2, c2, rfl, _, _⟩ := h.2.2.1.shape;obtain ⟨a3, c3, rfl, _, _⟩ := h.2.2.2.1.shape;obtain ⟨a4, c4, rfl, _, _⟩ := h.2.2.2.2.shape;have d0 : (E.i.length : Int) ≤ 40 := by omega
 have d1 : (E.s.length : Int) ≤ 40 := by omega
 have d2 : (E.x.length : Int) ≤ 40 := by omega
 have d3 : ¬ (E.c.length : Int) ≤ 40 := by omega
 clear h;go_enter Try.func22, Try.ntmps22;go_wp2_with fail;go_ret;exact ⟨rfl, (Kp.refl _).alloc _⟩
theorem afF (v0 v1 v2 v3 v4 : Value) (E : Eps) (w : World) (h : EV w v0 v1 v2 v3 v4 E) (h0 : E.i.length ≤ 40) (h1 : E.s.length ≤ 40) (h2 : ¬ E.x.length ≤ 40) :
  Calls Try.prog 22 #[.agg #[v0, v1, v2, v3, v4]] w fun e w' => e = .returned (.bool false) ∧ Kp w w' := by
 obtain ⟨a0, c0, rfl, _, _⟩ := h.1.shape;obtain ⟨a1, c1, rfl, _, _⟩ := h.2.1.shape;obtain ⟨a2, c2, rfl, _, _⟩ := h.2.2.1.shape;obtain ⟨a3, c3, rfl, _, _⟩ := h.2.2.2.1.shape;obtain ⟨a4, c4, rfl, _, _⟩ := h.2.2.2.2.shape;have d0 : (E.i.length : Int) ≤ 40 := by omega
 have d1 : (E.s.length : Int) ≤ 40 := by omega
 have d2 : ¬ (E.x.length : Int) ≤ 40 := by omega
 clear h;go_enter Try.func22, Try.ntmps22;go_wp2_with fail;go_ret;exact ⟨rfl, (Kp.refl _).alloc _⟩
theorem afG (v0 v1 v2 v3 v4 : Value) (E : Eps) (w : World) (h : EV w v0 v1 v2 v3 v4 E) (h0 : E.i.length ≤ 40) (h1 : ¬ E.s.length ≤ 40) :
  Calls Try.prog 22 #[.agg #[v0, v1, v2, v3, v4]] w fun e w' => e = .returned (.bool false) ∧ Kp w w' := by
 obtain ⟨a0, c0, rfl, _, _⟩ := h.1.shape;obtain ⟨a1, c1, rfl, _, _⟩ := h.2.1.shape;obtain ⟨a2, c2, rfl, _, _⟩ := h.2.2.1.shape;obtain ⟨a3, c3, rfl, _, _⟩ := h.2.2.2.1.shape;obtain ⟨a4, c4, rfl, _, _⟩ := h.2.2.2.2.shape;have d0 : (E.i.length : Int) ≤ 40 := by omega
 have d1 : ¬ (E.s.length : Int) ≤ 40 := by omega
 clear h;go_enter Try.func22, Try.ntmps22;go_wp2_with fail;go_ret;exact ⟨rfl, (Kp.refl _).alloc _⟩
theorem afH (v0 v1 v2 v3 v4 : Value) (E : Eps) (w : World) (h : EV w v0 v1 v2 v3 v4 E)  (h0 : ¬ E.i.length ≤ 40) :
  Calls Try.prog 22 #[.agg #[v0, v1, v2, v3, v4]] w fun e w' => e = .returned (.bool false) ∧ Kp w w' := by
 obtain ⟨a0, c0, rfl, _, _⟩ := h.1.shape;obtain ⟨a1, c1, rfl, _, _⟩ := h.2.1.shape;obtain ⟨a2, c2, rfl, _, _⟩ := h.2.2.1.shape;obtain ⟨a3, c3, rfl, _, _⟩ := h.2.2.2.1.shape;obtain ⟨a4, c4, rfl, _, _⟩ := h.2.2.2.2.shape;have d0 : ¬ (E.i.length : Int) ≤ 40 := by omega
 clear h;go_enter Try.func22, Try.ntmps22;go_wp2_with fail;go_ret;exact ⟨rfl, (Kp.refl _).alloc _⟩
theorem abO (v0 v1 v2 v3 v4 : Value) (E : Eps) (w : World) (h : EV w v0 v1 v2 v3 v4 E) :
  Calls Try.prog 22 #[.agg #[v0, v1, v2, v3, v4]] w fun e w' => e = .returned (.bool (decide E.few)) ∧ Kp w w' := by
 by_cases h0 : E.i.length ≤ 40
 ·by_cases h1 : E.s.length ≤ 40
  ·by_cases h2 : E.x.length ≤ 40
   ·by_cases h3 : E.c.length ≤ 40
    ·by_cases h4 : E.r.length ≤ 40
     ·rw [decide_eq_true (show E.few from ⟨h0, h1, h2, h3, h4⟩)]
      exact afC v0 v1 v2 v3 v4 E w h h0 h1 h2 h3 h4
     ·rw [decide_eq_false fun q : E.few => h4 q.2.2.2.2]
      exact afD v0 v1 v2 v3 v4 E w h h0 h1 h2 h3 (by omega)
    ·rw [decide_eq_false fun q : E.few => h3 q.2.2.2.1]
     exact afE v0 v1 v2 v3 v4 E w h h0 h1 h2 (by omega)
   ·rw [decide_eq_false fun q : E.few => h2 q.2.2.1]
    exact afF v0 v1 v2 v3 v4 E w h h0 h1 (by omega)
  ·rw [decide_eq_false fun q : E.few => h1 q.2.1]
   exact afG v0 v1 v2 v3 v4 E w h h0 (by omega)
 ·rw [decide_eq_false fun q : E.few => h0 q.1]
  exact afH v0 v1 v2 v3 v4 E w h  (by omega)
set_option maxHeartbeats 2000000
theorem aey (v0 v1 v2 v3 v4 u0 u1 u2 u3 u4 : Value) (E F : Eps) (w : World) (h : EV w v0 v1 v2 v3 v4 E) (h' : EV w u0 u1 u2 u3 u4 F) (q0 : decide (E.i = F.i) = true) (q1 : decide (E.s = F.s) = true) (q2 : decide (E.x = F.x) = true) (q3 : decide (E.c = F.c) = true) (q4 : decide (E.r = F.r) = true) :
  Calls Try.prog 19 #[.agg #[v0, v1, v2, v3, v4], .agg #[u0, u1, u2, u3, u4]] w fun e w' => e = .returned (.bool true) ∧ Kp w w' := by
 have K2 := Lib.hid (((Kp.refl w).alloc (.cells #[v0, v1, v2, v3, v4] 36)).alloc (.cells #[u0, u1, u2, u3, u4] 36));have C0 := Lib.hid (fun W (k : Kp w W) => aam v0 u0 E.i F.i W (h.1.kp k) (h'.1.kp k));rw [q0] at C0;have C1 := Lib.hid (fun W (k : Kp w W) => aam v1 u1 E.s F.s W (h.2.1.kp k) (h'.2.1.kp k));rw [q1] at C1;have C2 := Lib.hid (fun W (k : Kp w W) => aam v2 u2 E.x F.x W (h.2.2.1.kp k) (h'.2.2.1.kp k));rw [q2] at C2;have C3 := Lib.hid (fun W (k : Kp w W) => aam v3 u3 E.c F.c W (h.2.2.2.1.kp k) (h'.2.2.2.1.kp k));rw [q3] at C3;have C4 := Lib.hid (fun W (k : Kp w W) => aam v4 u4 E.r F.r W (h.2.2.2.2.kp k) (h'.2.2.2.2.kp k));rw [q4] at C4;obtain ⟨a0, c0, rfl, _, _⟩ := h.1.shape;obtain ⟨a1, c1, rfl, _, _⟩ := h.2.1.shape;obtain ⟨a2, c2, rfl, _, _⟩ := h.2.2.1.shape;obtain ⟨a3, c3, rfl, _, _⟩ := h.2.2.2.1.shape;obtain ⟨a4, c4, rfl, _, _⟩ := h.2.2.2.2.shape;obtain ⟨b0, d0, rfl, _, _⟩ := h'.1.shape;obtain ⟨b1, d1, rfl, _, _⟩ := h'.2.1.shape;obtain ⟨b2, d2, rfl, _, _⟩ := h'.2.2.1.shape;obtain ⟨b3, d3, rfl, _, _⟩ := h'.2.2.2.1.shape;obtain ⟨b4, d4, rfl, _, _⟩ := h'.2.2.2.2.shape;clear h h' q0 q1 q2 q3 q4;go_enter Try.func19, Try.ntmps19;go_wp2_with fail;refine (C0.out _ K2.out).mono ?_;rintro _ _ ⟨rfl, rfl⟩;go_wp2_with fail;refine (C1.out _ K2.out).mono ?_;rintro _ _ ⟨rfl, rfl⟩;go_wp2_with fail;refine (C2.out _ K2.out).mono ?_;rintro _ _ ⟨rfl, rfl⟩;go_wp2_with fail;refine (C3.out _ K2.out).mono ?_;rintro _ _ ⟨rfl, rfl⟩;go_wp2_with fail;refine (C4.out _ K2.out).mono ?_;rintro _ _ ⟨rfl, rfl⟩;go_wp2_with fail;go_ret;exact ⟨rfl, K2.out⟩
theorem aez (v0 v1 v2 v3 v4 u0 u1 u2 u3 u4 : Value) (E F : Eps) (w : World) (h : EV w v0 v1 v2 v3 v4 E) (h' : EV w u0 u1 u2 u3 u4 F) (q0 : decide (E.i = F.i) = true) (q1 : decide (E.s = F.s) = true) (q2 : decide (E.x = F.x) = true) (q3 : decide (E.c = F.c) = true) (q4 : decide (E.r = F.r) = false) :
  Calls Try.prog 19 #[.agg #[v0, v1, v2, v3, v4], .agg #[u0, u1, u2, u3, u4]] w fun e w' => e = .returned (.bool false) ∧ Kp w w' := by
 have K2 := Lib.hid (((Kp.refl w).alloc (.cells #[v0, v1, v2, v3, v4] 36)).alloc (.cells #[u0, u1, u2, u3, u4] 36));have C0 := Lib.hid (fun W (k : Kp w W) => aam v0 u0 E.i F.i W (h.1.kp k) (h'.1.kp k));rw [q0] at C0;have C1 := Lib.hid (fun W (k : Kp w W) => aam v1 u1 E.s F.s W (h.2.1.kp k) (h'.2.1.kp k));rw [q1] at C1;have C2 := Lib.hid (fun W (k : Kp w W) => aam v2 u2 E.x F.x W (h.2.2.1.kp k) (h'.2.2.1.kp k));rw [q2] at C2;have C3 := Lib.hid (fun W (k : Kp w W) => aam v3 u3 E.c F.c W (h.2.2.2.1.kp k) (h'.2.2.2.1.kp k));rw [q3] at C3;have C4 := Lib.hid (fun W (k : Kp w W) => aam v4 u4 E.r F.r W (h.2.2.2.2.kp k) (h'.2.2.2.2.kp k));rw [q4] at C4;obtain ⟨a0, c0, rfl, _, _⟩ := h.1.shape;obtain ⟨a1, c1, rfl, _, _⟩ := h.2.1.shape;obtain ⟨a2, c2, rfl, _, _⟩ := h.2.2.1.shape;obtain ⟨a3, c3, rfl, _, _⟩ := h.2.2.2.1.shape;obtain ⟨a4, c4, rfl, _, _⟩ := h.2.2.2.2.shape;obtain ⟨b0, d0, rfl, _, _⟩ := h'.1.shape;obtain ⟨b1, d1, rfl, _, _⟩ := h'.2.1.shape;obtain ⟨b2, d2, rfl, _, _⟩ := h'.2.2.1.shape;obtain ⟨b3, d3, rfl, _, _⟩ := h'.2.2.2.1.shape;obtain ⟨b4, d4, rfl, _, _⟩ := h'.2.2.2.2.shape;clear h h' q0 q1 q2 q3 q4;go_enter Try.func19, Try.ntmps19;go_wp2_with fail;refine (C0.out _ K2.out).mono ?_;rintro _ _ ⟨rfl, rfl⟩;go_wp2_with fail;refine (C1.out _ K2.out).mono ?_;rintro _ _ ⟨rfl, rfl⟩;go_wp2_with fail;refine (C2.out _ K2.out).mono ?_;rintro _ _ ⟨rfl, rfl⟩;go_wp2_with fail;refine (C3.out _ K2.out).mono ?_;rintro _ _ ⟨rfl, rfl⟩;go_wp2_with fail;refine (C4.out _ K2.out).mono ?_;rintro _ _ ⟨rfl, rfl⟩;go_wp2_with fail;go_ret;exact ⟨rfl, K2.out⟩
theorem aeA (v0 v1 v2 v3 v4 u0 u1 u2 u3 u4 : Value) (E F : Eps) (w : World) (h : EV w v0 v1 v2 v3 v4 E) (h' : EV w u0 u1 u2 u3 u4 F) (q0 : decide (E.i = F.i) = true) (q1 : decide (E.s = F.s) = true) (q2 : decide (E.x = F.x) = true) (q3 : decide (E.c = F.c) = false) :
  Calls Try.prog 19 #[.agg #[v0, v1, v2, v3, v4], .agg #[u0, u1, u2, u3, u4]] w fun e w' => e = .returned (.bool false) ∧ Kp w w' := by
 have K2 := Lib.hid (((Kp.refl w).alloc (.cells #[v0, v1, v2, v3, v4] 36)).alloc (.cells #[u0, u1, u2, u3, u4] 36));have C0 := Lib.hid (fun W (k : Kp w W) => aam v0 u0 E.i F.i W (h.1.kp k) (h'.1.kp k));rw [q0] at C0;have C1 := Lib.hid (fun W (k : Kp w W) => aam v1 u1 E.s F.s W (h.2.1.kp k) (h'.2.1.kp k));rw [q1] at C1;have C2 := Lib.hid (fun W (k : Kp w W) => aam v2 u2 E.x F.x W (h.2.2.1.kp k) (h'.2.2.1.kp k));rw [q2] at C2;have C3 := Lib.hid (fun W (k : Kp w W) => aam v3 u3 E.c F.c W (h.2.2.2.1.kp k) (h'.2.2.2.1.kp k));rw [q3] at C3;obtain ⟨a0, c0, rfl, _, _⟩ := h.1.shape;obtain ⟨a1, c1, rfl, _, _⟩ := h.2.1.shape;obtain ⟨a2, c2, rfl, _, _⟩ := h.2.2.1.shape;obtain ⟨a3, c3, rfl, _, _⟩ := h.2.2.2.1.shape;obtain ⟨a4, c4, rfl, _, _⟩ := h.2.2.2.2.shape;obtain ⟨b0, d0, rfl, _, _⟩ := h'.1.shape;obtain ⟨b1, d1, rfl, _, _⟩ := h'.2.1.shape;obtain ⟨b2, d2, rfl, _, _⟩ := h'.2.2.1.shape;obtain ⟨b3, d3, rfl, _, _⟩ := h'.2.2.2.1.shape;obtain ⟨b4, d4, rfl, _, _⟩ := h'.2.2.2.2.shape;clear h h' q0 q1 q2 q3;go_enter Try.func19, Try.ntmps19;go_wp2_with fail;refine (C0.out _ K2.out).mono ?_;rintro _ _ ⟨rfl, rfl⟩;go_wp2_with fail;refine (C1.out _ K2.out).mono ?_;rintro _ _ ⟨rfl, rfl⟩;go_wp2_with fail;refine (C2.out _ K2.out).mono ?_;rintro _ _ ⟨rfl, rfl⟩;go_wp2_with fail;refine (C3.out _ K2.out).mono ?_;rintro _ _ ⟨rfl, rfl⟩;go_wp2_with fail;go_ret;exact ⟨rfl, K2.out⟩
theorem aeB (v0 v1 v2 v3 v4 u0 u1 u2 u3 u4 : Value) (E F : Eps) (w : World) (h : EV w v0 v1 v2 v3 v4 E) (h' : EV w u0 u1 u2 u3 u4 F) (q0 : decide (E.i = F.i) = true) (q1 : decide (E.s = F.s) = true) (q2 : decide (E.x = F.x) = false) :
  Calls Try.prog 19 #[.agg #[v0, v1, v2, v3, v4], .agg #[u0, u1, u2, u3, u4]] w fun e w' => e = .returned (.bool false) ∧ Kp w w' := by
 have K2 := Lib.hid (((Kp.refl w).alloc (.cells #[v0, v1, v2, v3, v4] 36)).alloc (.cells #[u0, u1, u2, u3, u4] 36));have C0 := Lib.hid (fun W (k : Kp w W) => aam v0 u0 E.i F.i W (h.1.kp k) (h'.1.kp k));rw [q0] at C0;have C1 := Lib.hid (fun W (k : Kp w W) => aam v1 u1 E.s F.s W (h.2.1.kp k) (h'.2.1.kp k));rw [q1] at C1;have C2 := Lib.hid (fun W (k : Kp w W) => aam v2 u2 E.x F.x W (h.2.2.1.kp k) (h'.2.2.1.kp k));rw [q2] at C2;obtain ⟨a0, c0, rfl, _, _⟩ := h.1.shape;obtain ⟨a1, c1, rfl, _, _⟩ := h.2.1.shape;obtain ⟨a2, c2, rfl, _, _⟩ := h.2.2.1.shape;obtain ⟨a3, c3, rfl, _, _⟩ := h.2.2.2.1.shape;obtain ⟨a4, c4, rfl, _, _⟩ := h.2.2.2.2.shape;obtain ⟨b0, d0, rfl, _, _⟩ := h'.1.shape;obtain ⟨b1, d1, rfl, _, _⟩ := h'.2.1.shape;obtain ⟨b2, d2, rfl, _, _⟩ := h'.2.2.1.shape;obtain ⟨b3, d3, rfl, _, _⟩ := h'.2.2.2.1.shape;obtain ⟨b4, d4, rfl, _, _⟩ := h'.2.2.2.2.shape;clear h h' q0 q1 q2;go_enter Try.func19, Try.ntmps19;go_wp2_with fail;refine (C0.out _ K2.out).mono ?_;rintro _ _ ⟨rfl, rfl⟩;go_wp2_with fail;refine (C1.out _ K2.out).mono ?_;rintro _ _ ⟨rfl, rfl⟩;go_wp2_with fail;refine (C2.out _ K2.out).mono ?_;rintro _ _ ⟨rfl, rfl⟩;go_wp2_with fail;go_ret;exact ⟨rfl, K2.out⟩
theorem aeC (v0 v1 v2 v3 v4 u0 u1 u2 u3 u4 : Value) (E F : Eps) (w : World) (h : EV w v0 v1 v2 v3 v4 E) (h' : EV w u0 u1 u2 u3 u4 F) (q0 : decide (E.i = F.i) = true) (q1 : decide (E.s = F.s) = false) :
  Calls Try.prog 19 #[.agg #[v0, v1, v2, v3, v4], .agg #[u0, u1, u2, u3, u4]] w fun e w' => e = .returned (.bool false) ∧ Kp w w' := by
 have K2 := Lib.hid (((Kp.refl w).alloc (.cells #[v0, v1, v2, v3, v4] 36)).alloc (.cells #[u0, u1, u2, u3, u4] 36));have C0 := Lib.hid (fun W (k : Kp w W) => aam v0 u0 E.i F.i W (h.1.kp k) (h'.1.kp k));rw [q0] at C0;have C1 := Lib.hid (fun W (k : Kp w W) => aam v1 u1 E.s F.s W (h.2.1.kp k) (h'.2.1.kp k));rw [q1] at C1;obtain ⟨a0, c0, rfl, _, _⟩ := h.1.shape;obtain ⟨a1, c1, rfl, _, _⟩ := h.2.1.shape;obtain ⟨a2, c2, rfl, _, _⟩ := h.2.2.1.shape;obtain ⟨a3, c3, rfl, _, _⟩ := h.2.2.2.1.shape;obtain ⟨a4, c4, rfl, _, _⟩ := h.2.2.2.2.shape;obtain ⟨b0, d0, rfl, _, _⟩ := h'.1.shape;obtain ⟨b1, d1, rfl, _, _⟩ := h'.2.1.shape;obtain ⟨b2, d2, rfl, _, _⟩ := h'.2.2.1.shape;obtain ⟨b3, d3, rfl, _, _⟩ := h'.2.2.2.1.shape;obtain ⟨b4, d4, rfl, _, _⟩ := h'.2.2.2.2.shape;clear h h' q0 q1;go_enter Try.func19, Try.ntmps19;go_wp2_with fail;refine (C0.out _ K2.out).mono ?_;rintro _ _ ⟨rfl, rfl⟩;go_wp2_with fail;refine (C1.out _ K2.out).mono ?_;rintro _ _ ⟨rfl, rfl⟩;go_wp2_with fail;go_ret;exact ⟨rfl, K2.out⟩
theorem aeD (v0 v1 v2 v3 v4 u0 u1 u2 u3 u4 : Value) (E F : Eps) (w : World) (h : EV w v0 v1 v2 v3 v4 E) (h' : EV w u0 u1 u2 u3 u4 F)  (q0 : decide (E.i = F.i) = false) :
  Calls Try.prog 19 #[.agg #[v0, v1, v2, v3, v4], .agg #[u0, u1, u2, u3, u4]] w fun e w' => e = .returned (.bool false) ∧ Kp w w' := by
 have K2 := Lib.hid (((Kp.refl w).alloc (.cells #[v0, v1, v2, v3, v4] 36)).alloc (.cells #[u0, u1, u2, u3, u4] 36));have C0 := Lib.hid (fun W (k : Kp w W) => aam v0 u0 E.i F.i W (h.1.kp k) (h'.1.kp k));rw [q0] at C0;obtain ⟨a0, c0, rfl, _, _⟩ := h.1.shape;obtain ⟨a1, c1, rfl, _, _⟩ := h.2.1.shape;obtain ⟨a2, c2, rfl, _, _⟩ := h.2.2.1.shape;obtain ⟨a3, c3, rfl, _, _⟩ := h.2.2.2.1.shape;obtain ⟨a4, c4, rfl, _, _⟩ := h.2.2.2.2.shape;obtain ⟨b0, d0, rfl, _, _⟩ := h'.1.shape;obtain ⟨b1, d1, rfl, _, _⟩ := h'.2.1.shape;obtain ⟨b2, d2, rfl, _, _⟩ := h'.2.2.1.shape;obtain ⟨b3, d3, rfl, _, _⟩ := h'.2.2.2.1.shape;obtain ⟨b4, d4, rfl, _, _⟩ := h'.2.2.2.2.shape;clear h h' q0;go_enter Try.func19, Try.ntmps19;go_wp2_with fail;refine (C0.out _ K2.out).mono ?_;rintro _ _ ⟨rfl, rfl⟩;go_wp2_with fail;go_ret;exact ⟨rfl, K2.out⟩
theorem aa7 (v0 v1 v2 v3 v4 u0 u1 u2 u3 u4 : Value) (E F : Eps) (w : World) (h : EV w v0 v1 v2 v3 v4 E) (h' : EV w u0 u1 u2 u3 u4 F) :
  Calls Try.prog 19 #[.agg #[v0, v1, v2, v3, v4], .agg #[u0, u1, u2, u3, u4]] w fun e w' => e = .returned (.bool (E.same F)) ∧ Kp w w' := by
 cases q0 : decide (E.i = F.i)
 ·rw [show E.same F = false by simp only [Eps.same, q0, Bool.and_false, Bool.false_and]]
  exact aeD v0 v1 v2 v3 v4 u0 u1 u2 u3 u4 E F w h h' q0
 ·cases q1 : decide (E.s = F.s)
  ·rw [show E.same F = false by simp only [Eps.same, q0, q1, Bool.and_false, Bool.false_and]]
   exact aeC v0 v1 v2 v3 v4 u0 u1 u2 u3 u4 E F w h h' q0 q1
  ·cases q2 : decide (E.x = F.x)
   ·rw [show E.same F = false by simp only [Eps.same, q0, q1, q2, Bool.and_false, Bool.false_and]]
    exact aeB v0 v1 v2 v3 v4 u0 u1 u2 u3 u4 E F w h h' q0 q1 q2
   ·cases q3 : decide (E.c = F.c)
    ·rw [show E.same F = false by simp only [Eps.same, q0, q1, q2, q3, Bool.and_false, Bool.false_and]]
     exact aeA v0 v1 v2 v3 v4 u0 u1 u2 u3 u4 E F w h h' q0 q1 q2 q3
    ·cases q4 : decide (E.r = F.r)
     ·rw [show E.same F = false by simp only [Eps.same, q0, q1, q2, q3, q4, Bool.and_false, Bool.false_and]]
      exact aez v0 v1 v2 v3 v4 u0 u1 u2 u3 u4 E F w h h' q0 q1 q2 q3 q4
     ·rw [show E.same F = true by simp only [Eps.same, q0, q1, q2, q3, q4, Bool.and_self]]
      exact aey v0 v1 v2 v3 v4 u0 u1 u2 u3 u4 E F w h h' q0 q1 q2 q3 q4
set_option maxRecDepth 100000 in
theorem aed (va vb vc : Value) (a b c : List UInt8) (w : World) (ha : Rd w va a) (hb : Rd w vb b) (hc : Rd w vc c) (hcl : c.length ≤ 1400) (hal : a.length ≤ 1000) (hbl : b.length ≤ 1000) :
  Calls Try.prog 17 #[va, vb, vc] w fun e w' => (∃ v0 v1 v2 v3 v4, e = .returned (.tuple #[.agg #[v0, v1, v2, v3, v4], .int .i64 (agE a b)]) ∧ EV w' v0 v1 v2 v3 v4 (epR a b c)) ∧ Kp w w' := by
 have HX := Lib.hid (fun W (k : Kp w W) => aaY va vb a b W (ha.kp k) (hb.kp k) (by omega) (by omega));have HL := Lib.hid (fun W v (k : Kp w W) (h : Rd W v (macB a b)) => aaZ v vc aaT (macB a b) c W h (hc.kp k) (by decide) hcl (by rw [aaA]; omega));obtain ⟨a1, c1, rfl, _, q1⟩ := ha.shape;obtain ⟨a2, c2, rfl, _, q2⟩ := hb.shape;obtain ⟨a3, n3, c3, rfl⟩ := hc.sl;have KA := Lib.hid ((Kp.refl w).alloc (.cells nil5 36));have B0 := Lib.hid (Bx.new w 36 nil5);unfold nil5 at *;by_cases h : a.length = 32 ∧ b.length = 32
 ·rw [afy c h, (abj h.1 h.2 aaT c).1]
  have hkl := aap (macB a b) aaT c;rw [h.1] at HX ⊢;rw [h.2] at HX ⊢;generalize oneS (macB a b) aaT c = K at *;have HO := Lib.hid (fun W v s (h : Rd W v K) (hs : s.size ≤ 300) => aec v s K W h hs (by omega));have HE : Hid (oneS K ae0 [] = (ac2 K).i ∧ oneS K ae1 [] = (ac2 K).s ∧ oneS K acp [] = (ac2 K).x ∧ oneS K abQ [] = (ac2 K).c ∧ oneS K acq [] = (ac2 K).r) := ⟨rfl, rfl, rfl, rfl, rfl⟩;unfold aaT at HL;clear ha hb hc h;go_enter Try.func17, Try.ntmps17;go_wp2_with fail;refine (HX.out _ KA.out).mono ?_;rintro _ w1 ⟨⟨v1, rfl, o1⟩, k1⟩;obtain ⟨a4, n4, c4, rfl⟩ := o1.rd.sl;have K1 := KA.out.trans k1;go_wp2_with fail;refine (HL.out _ _ K1 o1.rd).mono ?_;rintro _ w2 ⟨⟨v2, rfl, r2, _⟩, k2⟩;obtain ⟨a5, n5, c5, rfl⟩ := r2.sl;have K2 := Lib.hid (K1.trans k2);have B2 := Lib.hid ((B0.out.kp k1).kp k2);have HSZ : Hid (w.heap.size < w2.heap.size) := (Array.getElem?_eq_some_iff.1 B2.out).1;have R2 := Lib.hid r2;clear o1 k1 K1 k2 r2 KA B0 HX HL;go_wp2_with fail;refine (HO.out _ _ ae0 (R2.out) (by decide)).mono ?_;rintro _ w3 ⟨⟨v0, rfl, r0, n0'⟩, k3⟩;obtain ⟨x0, y0, z0, rfl⟩ := r0.sl;have R_0 := Lib.hid r0;have N_0 : Hid (aaD w2.heap.size (.slice x0 y0 z0)) := n0';have k02 : Kp w2 w3 := k3;clear r0 n0' k3;go_wp2_with fail;refine (HO.out _ _ ae1 (R2.out.kp k02) (by decide)).mono ?_;rintro _ w4 ⟨⟨v1, rfl, r1, n1'⟩, k4⟩;obtain ⟨x1, y1, z1, rfl⟩ := r1.sl;have R_0 := Lib.hid (R_0.out.kp k4);have R_1 := Lib.hid r1;have N_1 : Hid (aaD w2.heap.size (.slice x1 y1 z1)) := n1'.mono k02.size;have k02 : Kp w2 w4 := k02.trans k4;clear r1 n1' k4;go_wp2_with fail;refine (HO.out _ _ acp (R2.out.kp k02) (by decide)).mono ?_;rintro _ w5 ⟨⟨v2, rfl, r2, n2'⟩, k5⟩;obtain ⟨x2, y2, z2, rfl⟩ := r2.sl;have R_0 := Lib.hid (R_0.out.kp k5);have R_1 := Lib.hid (R_1.out.kp k5);have R_2 := Lib.hid r2;have N_2 : Hid (aaD w2.heap.size (.slice x2 y2 z2)) := n2'.mono k02.size;have k02 : Kp w2 w5 := k02.trans k5;clear r2 n2' k5;go_wp2_with fail;refine (HO.out _ _ abQ (R2.out.kp k02) (by decide)).mono ?_;rintro _ w6 ⟨⟨v3, rfl, r3, n3'⟩, k6⟩;obtain ⟨x3, y3, z3, rfl⟩ := r3.sl;have R_0 := Lib.hid (R_0.out.kp k6);have R_1 := Lib.hid (R_1.out.kp k6);have R_2 := Lib.hid (R_2.out.kp k6);have R_3 := Lib.hid r3;have N_3 : Hid (aaD w2.heap.size (.slice x3 y3 z3)) := n3'.mono k02.size;have k02 : Kp w2 w6 := k02.trans k6;clear r3 n3' k6;go_wp2_with fail;refine (HO.out _ _ acq (R2.out.kp k02) (by decide)).mono ?_;rintro _ w7 ⟨⟨v4, rfl, r4, n4'⟩, k7⟩;obtain ⟨x4, y4, z4, rfl⟩ := r4.sl;have R_0 := Lib.hid (R_0.out.kp k7);have R_1 := Lib.hid (R_1.out.kp k7);have R_2 := Lib.hid (R_2.out.kp k7);have R_3 := Lib.hid (R_3.out.kp k7);have R_4 := Lib.hid r4;have N_4 : Hid (aaD w2.heap.size (.slice x4 y4 z4)) := n4'.mono k02.size;have k02 : Kp w2 w7 := k02.trans k7;clear r4 n4' k7;have K7 := Lib.hid (K2.out.trans k02);have B7 := Lib.hid (B2.out.kp k02);have HSZ := HSZ.out;go_wp2_with (refine wpList_store_row rfl rfl 36 (.tmp 6) (.tmp 33) rfl w.heap.size 36 _ #[.slice x0 y0 z0, .slice x1 y1 z1, .slice x2 y2 z2, .slice x3 y3 z3, .slice x4 y4 z4] rfl rfl B7.out rfl aah aac ?_; intro w8 b8 g8 hk8)
  refine bodyPost_ret (aaC rfl _ _ w.heap.size _ _ (0, 0) _ _ rfl b8 Try.underlying36 rfl aac rfl) rfl ?_;have st : Step (fun k => k = w.heap.size) w7 w8 := ⟨g8.os, g8.tape, g8.output, g8.size, fun q hq hn => g8.block q hq fun e => hn (by cases e; rfl)⟩;exact ⟨⟨_, _, _, _, _, rfl, HE.out.1 ▸ R_0.out.stepAway st (N_0.out.mono HSZ), HE.out.2.1 ▸ R_1.out.stepAway st (N_1.out.mono HSZ), HE.out.2.2.1 ▸ R_2.out.stepAway st (N_2.out.mono HSZ), HE.out.2.2.2.1 ▸ R_3.out.stepAway st (N_3.out.mono HSZ), HE.out.2.2.2.2 ▸ R_4.out.stepAway st (N_4.out.mono HSZ)⟩, hk8 w K7.out (Nat.le_refl _)⟩
 ·rw [agV h, (ac1 h aaT c).1]
  have fin : ∀ (e : Ending) (w1 : World), e = .returned (.tuple #[.agg #[.slice none 0 0, .slice none 0 0, .slice none 0 0, .slice none 0 0, .slice none 0 0], .int .i64 1]) ∧ Kp w w1 → (∃ v0 v1 v2 v3 v4, e = .returned (.tuple #[.agg #[v0, v1, v2, v3, v4], .int .i64 1]) ∧ EV w1 v0 v1 v2 v3 v4 ⟨[], [], [], [], []⟩) ∧ Kp w w1 := fun e w1 h => ⟨⟨_, _, _, _, _, h.1, aas _, aas _, aas _, aas _, aas _⟩, h.2⟩
  suffices h0 : Calls Try.prog 17 #[.slice a1 a.length c1, .slice a2 b.length c2, .slice a3 n3 c3] w fun e w1 => e = .returned (.tuple #[.agg #[.slice none 0 0, .slice none 0 0, .slice none 0 0, .slice none 0 0, .slice none 0 0], .int .i64 1]) ∧ Kp w w1 from h0.mono fin
  clear ha hb hc HX HL fin;by_cases h1 : a.length = 32
  ·have d2 : ((b.length : Int) != 32) = true := bne_iff_ne.2 fun e => h ⟨h1, by omega⟩
   rw [h1];clear h h1;go_enter Try.func17, Try.ntmps17;go_wp2_with (refine wpList_store_row rfl rfl 36 (.tmp 6) (.tmp 17) rfl w.heap.size 36 _ #[.slice none 0 0, .slice none 0 0, .slice none 0 0, .slice none 0 0, .slice none 0 0] rfl rfl B0.out rfl aah aac ?_; intro w4 b4 g4 hk4)
   refine bodyPost_ret (aaC rfl _ _ w.heap.size _ _ (0, 0) _ _ rfl b4 Try.underlying36 rfl aac rfl) rfl ?_;exact ⟨rfl, hk4 w KA.out (Nat.le_refl _)⟩
  ·have d2 : ((a.length : Int) != 32) = true := bne_iff_ne.2 (by omega)
   clear h h1;go_enter Try.func17, Try.ntmps17;go_wp2_with (refine wpList_store_row rfl rfl 36 (.tmp 6) (.tmp 17) rfl w.heap.size 36 _ #[.slice none 0 0, .slice none 0 0, .slice none 0 0, .slice none 0 0, .slice none 0 0] rfl rfl B0.out rfl aah aac ?_; intro w4 b4 g4 hk4)
   refine bodyPost_ret (aaC rfl _ _ w.heap.size _ _ (0, 0) _ _ rfl b4 Try.underlying36 rfl aac rfl) rfl ?_;exact ⟨rfl, hk4 w KA.out (Nat.le_refl _)⟩
theorem adp (vl vc vb : Value) (l c b : List UInt8) (w : World) (hl : Rd w vl l) (hc : Rd w vc c) (hb : Rd w vb b) (hcl : c.length ≤ 900) (hbl : b.length ≤ 900) :
  Calls Try.prog 24 #[vl, vc, vb] w fun e w' => (∃ v, e = .returned (.tuple #[v, .int .i64 (logE l)]) ∧ Ow 5 w' w.heap.size v (logR l c b)) ∧ Kp w w' := by
 have U := u8;have HL := Lib.hid (fun W (k : Kp w W) => aaN vl l W (hl.kp k));have HC := Lib.hid (fun W (k : Kp w W) => aaN vc c W (hc.kp k));have HB := Lib.hid (fun W (k : Kp w W) => aaN vb b W (hb.kp k));obtain ⟨a1, c1, rfl, _, _⟩ := hl.shape;obtain ⟨a2, n2, c2, rfl⟩ := hc.sl;obtain ⟨a3, n3, c3, rfl⟩ := hb.sl;by_cases h : l.length = 32
 ·rw [(abo (c := c) (b := b) h).1, (abo h).2]
  have p1 := aaM (l := l) (by omega);have p2 := aaM (l := c) (by omega);have p3 := aaM (l := b) (by omega);have HP : Hid ((rowB l).length ≤ 40 ∧ (rowB c).length ≤ 910 ∧ (rowB b).length ≤ 910) := ⟨by omega, by omega, by omega⟩;have HX := Lib.hid (fun W v h => aaG v (rowB l ++ rowB c ++ rowB b) W h (by rw [List.length_append, List.length_append]; omega));rw [h] at HL ⊢;generalize rowB l = RL' at *;generalize rowB c = RC at *;generalize rowB b = RB at *;have OA : Hid (Ow 5 (w.alloc (.cells #[] 5)) w.heap.size (.slice (some ⟨w.heap.size, 0, none⟩) 0 0) []) := Ow.lit w 5 w.heap.size 0 #[] [] (Nat.le_refl _) rfl (by decide) rfl;have KA := Lib.hid ((Kp.refl w).alloc (.cells #[] 5));clear hl hc hb h p1 p2 p3;go_enter Try.func24, Try.ntmps24;go_wp2_with (first
   | (go_at_call 34; refine (HX.out _ _ o8.rd).mono ?_; rintro _ w9 ⟨⟨v9, rfl, o9⟩, k9⟩; have K9 := Lib.hid (K8.trans k9))
   | (at_builtin; refine aaa (o := ⟨some 20, _, _, _, _, _⟩) U rfl _ _ rfl w.heap.size _ (RL' ++ RC) rfl o6' _ RB rfl o7.rd (by have := HP.out; simp only [List.length_append]; omega) K7.size ?_; intro v8 w8 o8 g8 _; obtain ⟨a8, n8, c8, rfl⟩ := o8.rd.sl; have K8 : Kp w w8 := Kp.grown K7 g8 o6'.own_ge)
   | (at_builtin; refine aaa (o := ⟨some 17, _, _, _, _, _⟩) U rfl _ _ rfl w.heap.size _ RL' rfl o4' _ RC rfl o5.rd (by have := HP.out; omega) K5.size ?_; intro v6 w6 o6 g6 _; obtain ⟨a6, n6, c6, rfl⟩ := o6.rd.sl; have K6 : Kp w w6 := Kp.grown K5 g6 o4'.own_ge)
   | (at_builtin; refine aaa (o := ⟨some 14, _, _, _, _, _⟩) U rfl _ _ rfl w.heap.size _ [] rfl (OA.out.kp k3) _ RL' rfl o3.rd (by have := HP.out; simp; omega) K3.size ?_; intro v4 w4 o4 g4 _; obtain ⟨a4, n4, c4, rfl⟩ := o4.rd.sl; rw [List.nil_append] at o4; have K4 : Kp w w4 := Kp.grown K3 g4 OA.out.own_ge)
   | (go_at_call 41; refine (HB.out _ K6).mono ?_; rintro _ w7 ⟨⟨v7, rfl, o7⟩, k7⟩; obtain ⟨x7, y7, z7, rfl⟩ := o7.rd.sl; have K7 := K6.trans k7; have o6' := o6.kp k7)
   | (go_at_call 41; refine (HC.out _ K4).mono ?_; rintro _ w5 ⟨⟨v5, rfl, o5⟩, k5⟩; obtain ⟨x5, y5, z5, rfl⟩ := o5.rd.sl; have K5 := K4.trans k5; have o4' := o4.kp k5)
   | (go_at_call 41; refine (HL.out _ KA.out).mono ?_; rintro _ w3 ⟨⟨v3, rfl, o3⟩, k3⟩; obtain ⟨x3, y3, z3, rfl⟩ := o3.rd.sl; have K3 := KA.out.trans k3))
  go_ret2;exact ⟨⟨_, rfl, o9.mono K8.size⟩, K9.out⟩
 ·rw [(adm (c := c) (b := b) h).1, (adm h).2]
  have d1 : ((l.length : Int) != 32) = true := bne_iff_ne.2 (by omega);clear hl hc hb h;go_enter Try.func24, Try.ntmps24;go_wp2_with fail;go_ret2;exact ⟨⟨_, rfl, Ow.nil _ _ _⟩, Kp.refl _⟩
end Go.Proofs.Ytbhkdlpdolioaaa
