import Derived.Test.YtigpgcjbpoaclaaGreatDoorB3
import Derived.Test.YtigpgcjbpoaclaaGreatDoorB4
import Derived.Test.YtigpgcjbpoaclaaGreatDoorB5
import Derived.Test.YtigpgcjbpoaclaaGreatDoorB15
import Derived.Test.YtigpgcjbpoaclaaGreatDoorB18
import Derived.Test.YtigpgcjbpoaclaaGreatDoorB19
import Derived.Test.YtigpgcjbpoaclaaGreatDoorB20
import Derived.Test.YtigpgcjbpoaclaaGreatDoorB21
import Derived.Maps.AppendAt
import Derived.Deep.MidRow
import Derived.RangeFuncBox
import Derived.Maps.OwnIn
set_option linter.unusedVariables false
set_option linter.unusedSimpArgs false
namespace Go.Proofs.YtigpgcjbpoaclaaGreatDoor
open Go.RowKit
structure S1 (P : Program) (t e : TypeId) : Prop where
  ht : P.underlying t = some (.slice e)
  hi : ∃ i z, P.info? e = some i ∧ i.zero = some z ∧ i.size = 1 ∧ i.bytes ≤ 64 ∧ z.cells.size = 1
theorem S1.mk' {P : Program} {t e : TypeId} {z : Value} {b : Nat} (ht : P.underlying t = some (.slice e)) (h : (P.info? e).map (fun i => (i.zero, i.size, i.bytes)) = some (some z, 1, b)) (hb : b ≤ 64) (hz : z.cells.size = 1) : S1 P t e := by
  obtain ⟨i, hi, hz0, hz1, hz2⟩ := info_parts h
  exact ⟨ht, i, z, hi, hz0, hz1, by omega, hz⟩
theorem wpList_append_vals {P : Program} {w : World} {t e : TypeId} (S : S1 P t e) {ops : Array Oper} {rest : List Oper} {o : Oper} {a : Act} {Q : Exit → Act → World → Prop} (hgd : o.guard = none) (s x : Operand)
    (ho : o.op = .call { callee := .builtin .append, args := #[s, x], argTypes := #[t, t] })
    (B : Nat) (v : Value) (us : List Value) (hs : a.eval s = v) (hown : w.ownsRow B e 1 v us.length us) (u : Value) (ms : List Value) (hx : a.eval x = u) (hu : Vals w u ms) (h1 : ∀ z ∈ ms, z.oneCell' = true)
    (hlen : us.length + ms.length ≤ 1000000000000) (hbase : B ≤ w.heap.size)
    (h : ∀ v' w', w'.ownsRow B e 1 v' (us ++ ms).length (us ++ ms) → w.grownBy w' v.ownBlock → wpList P ops Q rest (a.put o.dst v') w') : wpList P ops Q (o :: rest) a w := by
  obtain ⟨i, z, hi, hz, hsize, hby, hzc⟩ := S.hi
  obtain ⟨ad, c, rfl, hc, hm, hnil, hcell⟩ := hu
  cases ad with
  | none =>
    have hc0 := hnil rfl
    have hm0 : ms = [] := List.eq_nil_of_length_eq_zero (by omega)
    subst hm0
    subst hc0
    refine wpList_append_own_none hgd s x t ho B e i 1 S.ht hi v us.length us hs hown hx ?_
    exact h v w (by simpa using hown) ⟨rfl, rfl, rfl, Nat.le_refl _, fun _ _ _ => rfl⟩
  | some ad =>
    refine wpList_append_own w hgd s x t ho B e i z 1 i.bytes S.ht hi hz hsize rfl hzc (by decide) v us.length us hs hown ad ms.length c ms hx (by omega) (fun j y hj => ?_) h1 (by unfold maxLen; omega) ?_ hbase
      (fun v' w' h1 h2 h3 => h v' w' (by rw [List.length_append]; exact h1) h2)
    · have hjl : j < ms.length := (List.getElem?_eq_some_iff.1 hj).1
      rw [List.getElem?_eq_getElem hjl] at hj
      cases hj
      exact hcell ad rfl j hjl
    · have := Nat.mul_le_mul hlen hby
      omega
theorem Rd.one {w : World} {v : Value} {l : List UInt8} (h : Rd w v l) : v.oneCell' = true := by
  obtain ⟨a, c, rfl, _⟩ := h.shape
  rfl
theorem own_lit1 (w : World) (e : TypeId) (u : Value) : (w.alloc (.cells #[u] e)).ownsRow w.heap.size e 1 (.slice (some ⟨w.heap.size, 0, none⟩) 1 1) [u].length [u] :=
  World.ownsRow_lit w #[u] 1 (Nat.le_refl _) (by unfold maxLen; omega) rfl
theorem Tryz.info22 : (Tryz.prog.info? 22).map (fun i => (i.zero, i.size, i.bytes)) = some (some (.slice none 0 0), 1, 24) := by kernel_rfl
theorem s1rows : S1 Tryz.prog 112 22 := S1.mk' Tryz.underlying112 Tryz.info22 (by decide) rfl
set_option maxHeartbeats 1000000 in
theorem mac_behind (vb v : Value) (lb : List UInt8) (ls : List (List UInt8)) (w : World) (hb : Rd w vb lb) (h : RL w v ls) (hp : 0 < lb.length) (hl : lb.length + ls.flatten.length ≤ 2000) (hn : ls.length < 1000000) :
    Calls Tryz.prog 107 #[vb, v] w fun e w' => (∃ a c, e = .returned (.slice a 32 c) ∧ Ow 5 w' w.heap.size (.slice a 32 c) (digest (lb ++ ls.flatten))) ∧ Kp w w' := by
  have S := s1rows
  obtain ⟨us, hv, hul, hr⟩ := h
  have h1 : ∀ z ∈ us, z.oneCell' = true := fun z hz => by
    obtain ⟨i, hi, rfl⟩ := List.getElem_of_mem hz
    have := hr i (by omega)
    rw [List.getD_eq_getElem?_getD, List.getElem?_eq_getElem hi] at this
    exact this.one
  have HU := Lib.hid (And.intro hul h1)
  have hlen : us.length < 1000000 := by omega
  have HR := Lib.hid hr
  clear hul h1 hr
  obtain ⟨ab, cb, rfl, pb, qb⟩ := hb.shape
  obtain ⟨av, cv, rfl, pv, qv⟩ := hv.shape
  unfold maxLen at qb qv
  have HO := Lib.hid (own_lit1 w 22 (.slice ab lb.length cb))
  go_enter Tryz.func107, Tryz.ntmps107
  go_wp2_with (at_builtin; refine wpList_append_vals S rfl _ _ rfl w.heap.size _ [.slice ab lb.length cb] rfl HO.out _ us rfl (hv.kp ((Kp.refl _).alloc _)) HU.out.2 (by simp; omega) (by simp) ?_; intro v2 w2 ho2 hg2; have k2 : Kp w w2 := Kp.grown ((Kp.refl _).alloc _) hg2 (by intro k e; cases e; exact Nat.le_refl _))
  have hRL : RL w2 v2 (lb :: ls) := RL.cons ho2 (hb.kp k2) HU.out.1 (fun i hi => (HR.out i hi).kp k2)
  refine (concat_rows v2 (lb :: ls) w2 hRL (by rw [List.flatten_cons, List.length_append]; omega) (by rw [List.flatten_cons, List.length_append]; omega) (by simp; omega)).mono ?_
  rintro e w3 ⟨⟨v3, rfl, o3⟩, k3⟩
  go_wp2_with fail
  refine (sum_32o v3 (lb :: ls).flatten _ o3.rd (by rw [List.flatten_cons, List.length_append]; omega)).mono ?_
  rintro e w4 ⟨⟨a4, c4, rfl, r4⟩, k4⟩
  go_wp2_with fail
  go_ret
  exact ⟨⟨_, _, rfl, by simpa using r4.mono (k2.trans k3).size⟩, (k2.trans k3).trans k4⟩
set_option maxHeartbeats 1000000 in
theorem mac_tag (vk v : Value) (k : List UInt8) (ls : List (List UInt8)) (w : World) (hk : Rd w vk k) (h : RL w v ls) (hkl : k.length ≤ 2000) (hl : ls.flatten.length ≤ 1900) (hn : ls.length < 1000000) :
    Calls Tryz.prog 98 #[vk, v] w fun e w' => (∃ a c, e = .returned (.slice a 32 c) ∧ Ow 5 w' w.heap.size (.slice a 32 c) (macB k ls.flatten)) ∧ Kp w w' := by
  have S := s1rows
  have HK := Lib.hid (keyB_length k)
  have HM : Hid (macB k ls.flatten = digest (xorB (keyB k) 92 ++ digest (xorB (keyB k) 54 ++ ls.flatten))) := rfl
  have HX := Lib.hid (fun y : UInt8 => xorB_length (keyB k) y)
  obtain ⟨K, hK⟩ : ∃ K, keyB k = K := ⟨_, rfl⟩
  rw [hK] at HK HM HX
  have HD := Lib.hid digest_length
  have MK := Lib.hid (mac_key vk k w hk hkl)
  rw [hK] at MK
  clear hK
  go_enter Tryz.func98, Tryz.ntmps98
  go_wp2_with fail
  refine MK.out.mono ?_
  rintro e w1 ⟨⟨g1, rfl, b1, _⟩, k1⟩
  have r1 : Rd w1 (.slice (some ⟨g1, 0, none⟩) 64 64) K := b1.rdAll (by rw [HK.out]) (Nat.le_refl _) (by unfold maxLen; omega)
  go_wp2_with fail
  refine (mac_padded _ K 92 _ r1 (by rw [HK.out]; omega)).mono ?_
  rintro e w2 ⟨⟨g2, rfl, b2, _⟩, k2⟩
  have r2 : Rd w2 (.slice (some ⟨g2, 0, none⟩) 64 64) (xorB K 92) := b2.rdAll (by rw [HX.out, HK.out]) (Nat.le_refl _) (by unfold maxLen; omega)
  have hlk : K.length = 64 := HK.out
  rw [hlk]
  clear hlk
  go_wp2_with fail
  refine (mac_padded _ K 54 _ (r1.kp k2) (by rw [HK.out]; omega)).mono ?_
  rintro e w3 ⟨⟨g3, rfl, b3, _⟩, k3⟩
  have r3 : Rd w3 (.slice (some ⟨g3, 0, none⟩) 64 64) (xorB K 54) := b3.rdAll (by rw [HX.out, HK.out]) (Nat.le_refl _) (by unfold maxLen; omega)
  have hlk : K.length = 64 := HK.out
  rw [hlk]
  clear hlk
  go_wp2_with fail
  refine (mac_behind _ _ (xorB K 54) ls _ r3 (((h.kp k1).kp k2).kp k3) (by rw [HX.out, HK.out]; omega) (by rw [HX.out, HK.out]; omega) hn).mono ?_
  rintro e w4 ⟨⟨a4, c4, rfl, r4⟩, k4⟩
  have hRL : ∀ W, Kp w4 W → W.ownsRow w4.heap.size 22 1 (.slice (some ⟨w4.heap.size, 0, none⟩) 1 1) [Value.slice a4 32 c4].length [Value.slice a4 32 c4] → RL W (.slice (some ⟨w4.heap.size, 0, none⟩) 1 1) [digest (xorB K 54 ++ ls.flatten)] := fun W hW ho =>
    RL.cons (us := []) (ls := []) ho (r4.rd.kp hW) rfl (fun i hi => by simp at hi)
  go_wp2_with fail
  refine (mac_behind _ _ (xorB K 92) [digest (xorB K 54 ++ ls.flatten)] _ (((r2.kp k3).kp k4).kp ((Kp.refl _).alloc _)) (hRL _ ((Kp.refl _).alloc _) (own_lit1 _ _ _)) (by rw [HX.out, HK.out]; omega) (by rw [HX.out, HK.out]; simp [HD.out]) (by simp)).mono ?_
  rintro e w5 ⟨⟨a5, c5, rfl, r5⟩, k5⟩
  go_wp2_with fail
  go_ret
  exact ⟨⟨_, _, rfl, by rw [HM.out]; simpa using r5.mono ((((k1.trans k2).trans k3).trans k4).alloc _).size⟩, (((k1.trans k2).trans k3).trans k4).trans (((Kp.refl _).alloc _).trans k5)⟩
theorem mac_all (vk v : Value) (k : List UInt8) (ls : List (List UInt8)) (w : World) (hk : Rd w vk k) (h : RL w v ls) (hkl : k.length ≤ 2000) (hl : ls.flatten.length ≤ 1900) (hn : ls.length < 1000000) :
    Calls Tryz.prog 91 #[vk, v] w fun e w' => (∃ a c, e = .returned (.slice a 32 c) ∧ Ow 5 w' w.heap.size (.slice a 32 c) (macB k ls.flatten)) ∧ Kp w w' := by
  go_enter Tryz.func91, Tryz.ntmps91
  go_wp2_with fail
  refine (mac_tag _ _ k ls _ hk h hkl hl hn).mono ?_
  rintro e w5 ⟨⟨a5, c5, rfl, r5⟩, k5⟩
  go_wp2_with fail
  go_ret
  exact ⟨⟨_, _, rfl, r5⟩, k5⟩
def iv (n : Nat) : Value := .int .i64 (n : Int)
def nI (n : Int) : Value := .int .i64 n
def RI (w : World) (v : Value) (l : List Int) : Prop := Vals w v (l.map nI)
def OI (e : TypeId) (w : World) (B : Nat) (v : Value) (l : List Int) : Prop := w.ownsRow B e 1 v (l.map nI).length (l.map nI)
theorem RI.nil (w : World) : RI w (.slice none 0 0) [] := Vals.nil w
theorem RI.shape {w : World} {v : Value} {l : List Int} (h : RI w v l) : ∃ a c, v = .slice a l.length c ∧ l.length ≤ c ∧ c ≤ maxLen := by
  have := Vals.shape h
  rwa [List.length_map] at this
theorem RI.at {w : World} {a : Option Addr} {n c : Nat} {l : List Int} (h : RI w (.slice a n c) l) (k : Nat) (hk : k < n) :
    ∃ b off, a = some ⟨b, off, none⟩ ∧ b < w.heap.size ∧ ∀ i, i < n → w.cell? ⟨b, off + i, none⟩ = some (.int .i64 (l.getD i 0)) := by
  obtain ⟨b, off, ha, hb, hc⟩ := Vals.at h k hk
  have hn : n = l.length := by
    obtain ⟨a', c', e, _⟩ := h.shape
    simp only [Value.slice.injEq] at e
    exact e.2.1
  refine ⟨b, off, ha, hb, fun i hi => ?_⟩
  rw [hc i hi, List.getD_eq_getElem?_getD, List.getElem?_map, List.getElem?_eq_getElem (by omega), List.getD_eq_getElem?_getD, List.getElem?_eq_getElem (by omega)]
  rfl
theorem OI.ri {e : TypeId} {w : World} {B : Nat} {v : Value} {l : List Int} (h : OI e w B v l) : RI w v l := Vals.own h
theorem ownsRow_kp9 {w w' : World} {B C : Nat} {e : TypeId} {n : Nat} {v : Value} {us : List Value} (h : w.ownsRow B e C v n us) (k : Kp w w') : w'.ownsRow B e C v n us := by
  refine ⟨h.1, ?_⟩
  rcases h.2 with hn | ⟨g, cap, cur, rfl, hb, hg, rest⟩
  · exact .inl hn
  · exact .inr ⟨g, cap, cur, rfl, hb, (Below.block k g (Array.getElem?_eq_some_iff.1 hg).1).trans hg, rest⟩
theorem OI.kp {e : TypeId} {w w' : World} {B : Nat} {v : Value} {l : List Int} (h : OI e w B v l) (k : Kp w w') : OI e w' B v l := ownsRow_kp9 h k
theorem OI.lt {e : TypeId} {w : World} {B : Nat} {v : Value} {l : List Int} (h : OI e w B v l) : ∀ k, v.ownBlock = some k → B ≤ k ∧ k < w.heap.size := fun k hk => World.ownsRow.lt h k hk
theorem RI.lit (w : World) (e : TypeId) (cs : Array Value) (l : List Int) (n : Nat) (hn : l.length = n) (hm : n ≤ 1000000) (hc : cs.toList = l.map nI) :
    OI e (w.alloc (.cells cs e)) w.heap.size (.slice (some ⟨w.heap.size, 0, none⟩) n n) l := by
  subst hn
  have hl : (l.map nI).length = l.length := List.length_map ..
  unfold OI
  rw [hl]
  have h2 : (w.alloc (.cells cs e)).ownsRow w.heap.size e 1 (.slice (some ⟨w.heap.size, 0, none⟩) l.length l.length) l.length cs.toList :=
    World.ownsRow_lit w cs l.length (Nat.le_refl _) (by unfold maxLen; omega) (by rw [← Array.length_toList, hc, hl]; omega)
  rw [hc] at h2
  exact h2
structure Nod where
  mk ::
  kind : Int
  name : Int
  pub : List UInt8
  un : List Int
  hash : List UInt8
theorem Nod.eq_iff (a b : Nod) : a = b ↔ a.kind = b.kind ∧ a.name = b.name ∧ a.pub = b.pub ∧ a.un = b.un ∧ a.hash = b.hash := by
  cases a; cases b; simp
instance : DecidableEq Nod := fun a b => decidable_of_iff _ (Nod.eq_iff a b).symm
def blankN : Nod := ⟨0, 0, [], [], []⟩
def ats (t : List Nod) (x : Nat) : Nod := t.getD x blankN
def lvs (t : List Nod) : Nat := (t.length + 1) / 2
def mayP (name : Int) (pub : List UInt8) : Prop := 0 ≤ name ∧ name ≤ 65535 ∧ pub.length = 32
instance (name : Int) (pub : List UInt8) : Decidable (mayP name pub) := by unfold mayP; infer_instance
def thereP (t : List Nod) (i : Int) : Prop := 0 ≤ i ∧ i < lvs t ∧ (ats t (2 * i.toNat)).kind = 1
instance (t : List Nod) (i : Int) : Decidable (thereP t i) := by unfold thereP; infer_instance
def emptyP (t : List Nod) (f : Nat) : Prop := ∀ i, f ≤ i → i < lvs t → (ats t (2 * i)).kind = 0
instance (t : List Nod) (f : Nat) : Decidable (emptyP t f) :=
  decidable_of_iff (∀ i, i < lvs t → f ≤ i → (ats t (2 * i)).kind = 0) ⟨fun h i h1 h2 => h i h2 h1, fun h i h1 h2 => h i h2 h1⟩
def nodC (n : Nod) (p u h : Value) : List Value := [.int .i64 n.kind, .int .i64 n.name, p, u, h]
structure NIn (w : World) (n : Nod) (p u h : Value) : Prop where
  mk ::
  pub : Rd w p n.pub
  un : RI w u n.un
  hash : Rd w h n.hash
theorem add_block9 (a : Addr) (n : Nat) : (a.add n).block = a.block := by unfold Addr.add; split <;> rfl
def Apart (v u : Value) : Prop := ∀ g, v.ownBlock = some g → ∀ x n c, u = .slice (some x) n c → 0 < n → x.block ≠ g
theorem ownsRow_setCells {e : TypeId} {B g n cap C : Nat} : ∀ (vs : List Value) (o : Nat) (w : World) (xs : List Value), w.ownsRow B e C (.slice (some ⟨g, 0, none⟩) n cap) n xs → o + vs.length ≤ xs.length →
    ∃ ys, (w.setCells g o vs).ownsRow B e C (.slice (some ⟨g, 0, none⟩) n cap) n ys ∧ w.grownBy (w.setCells g o vs) (some g) ∧ ys.length = xs.length ∧ ∀ k, ys[k]? = if o ≤ k ∧ k < o + vs.length then vs[k - o]? else xs[k]?
  | [], o, w, xs, h, _ => ⟨xs, h, ⟨rfl, rfl, rfl, Nat.le_refl _, fun _ _ _ => rfl⟩, rfl, fun k => by rw [if_neg (by simp only [List.length_nil]; omega)]⟩
  | v :: vs, o, w, xs, h, hl => by
    obtain ⟨h1, g1⟩ := h.stored o v
    obtain ⟨ys, h2, g2, hl2, h3⟩ := ownsRow_setCells vs (o + 1) (w.setCell ⟨g, o, none⟩ v) (xs.set o v) h1 (by rw [List.length_set]; simp at hl; omega)
    refine ⟨ys, h2, ⟨g2.os.trans g1.os, g2.tape.trans g1.tape, g2.output.trans g1.output, Nat.le_trans g1.size g2.size, fun k hk hn => (g2.block k (Nat.lt_of_lt_of_le hk g1.size) hn).trans (g1.block k hk hn)⟩, by rw [hl2, List.length_set], fun k => ?_⟩
    rw [h3 k]
    simp only [List.length_cons] at hl ⊢
    by_cases h4 : o + 1 ≤ k ∧ k < o + 1 + vs.length
    · rw [if_pos h4, if_pos ⟨by omega, by omega⟩, show k - o = (k - (o + 1)) + 1 by omega, List.getElem?_cons_succ]
    · rw [if_neg h4, List.getElem?_set]
      by_cases h5 : o = k
      · subst h5
        rw [if_pos rfl, if_pos (by omega), if_pos ⟨by omega, by omega⟩, Nat.sub_self]
        rfl
      · rw [if_neg h5, if_neg (by omega)]
structure S5 (P : Program) (t e : TypeId) : Prop where
  mk ::
  ht : P.underlying t = some (.slice e)
  hi : ∃ i z, P.info? e = some i ∧ i.zero = some z ∧ i.size = 5 ∧ i.bytes ≤ 128 ∧ z.cells.size = 5
theorem AnyIf.two {F : Fence} {n : Nat} {P : Program} {ops : Array Oper} {Q : Exit → Act → World → Prop} {md : Region.Mode} {S : World → Prop} (i j : Nat) {o u : Oper} {fuel : Nat} {listed : Array Bool} {a : Act} {w : World} (hi : ops[i]? = some o) (hj : ops[j]? = some u) (hr : Region.ready md ops listed = [i, j])
    (h1 : ∀ K : Act → World → Prop, (∀ a' w', S w' → AnyIf F n P md ops Q S fuel (listed.setIfInBounds i true) a' w' → K a' w') → if Region.wanted o (yielded ops a.tmps) = true then Oper.wpIn F n P o a w K Q else (∀ f, o.about P w a.eval = some f → F.fn f) ∧ K (a.put o.dst undef) w)
    (h2 : ∀ K : Act → World → Prop, (∀ a' w', S w' → AnyIf F n P md ops Q S fuel (listed.setIfInBounds j true) a' w' → K a' w') → if Region.wanted u (yielded ops a.tmps) = true then Oper.wpIn F n P u a w K Q else (∀ f, u.about P w a.eval = some f → F.fn f) ∧ K (a.put u.dst undef) w) :
    AnyIf F n P md ops Q S (fuel + 1) listed a w := by
  refine ⟨fun h0 => (by rw [h0] at hr; cases hr), fun k hk => ?_⟩
  rw [hr] at hk
  have hk2 : k = i ∨ k = j := by simpa using hk
  rcases hk2 with rfl | rfl
  · exact wpOpIn_step hi (fun K' hK => h1 K' (fun a' w' hs hw => hK a' w' ⟨hs, hw⟩))
  · exact wpOpIn_step hj (fun K' hK => h2 K' (fun a' w' hs hw => hK a' w' ⟨hs, hw⟩))
end Go.Proofs.YtigpgcjbpoaclaaGreatDoor
