/- The document's examples, at the head of all statements: shown. -/
import Derived.Test.YtpaopnjknpoacaaBytes2
namespace Go.Proofs.Ytpaopnjknpoacaa
open Go.RowKit

theorem len_at (n : Int) (l : List UInt8) (w : World) (he : lenE n = 0) (hl : lenB n = l) :
    Calls Try.prog 17 #[.int .i64 n] w fun e w' => ∃ v, e = .returned (.tuple #[v, .int .i64 0]) ∧ Ow 5 w' w.heap.size v l ∧ Kp w w' := by
  have := len_any n w
  rw [he, hl] at this
  exact this
theorem row_at (v : Value) (l m : List UInt8) (w : World) (h : Rd w v l) (he : rowE l = 0) (hl : rowB l = m) :
    Calls Try.prog 21 #[v] w fun e w' => ∃ u, e = .returned (.tuple #[u, .int .i64 0]) ∧ Ow 5 w' w.heap.size u m ∧ Kp w w' := by
  have := row_any v l w h
  rw [he, hl] at this
  exact this
theorem takeLen_at (v : Value) (l : List UInt8) (at' n p e : Int) (w : World) (h : Rd w v l) (h1 : tlN l at' = n) (h2 : tlP l at' = p) (h3 : tlE l at' = e) :
    Calls Try.prog 19 #[v, .int .i64 at'] w fun en w' => en = .returned (.tuple #[.int .i64 n, .int .i64 p, .int .i64 e]) ∧ Kp w w' := by
  have := takeLen_any v l at' w h
  unfold TL at this
  rw [h1, h2, h3] at this
  exact this
theorem bytes_at (s : ByteArray) (w : World) (hs : s.size ≤ 1000000) (l : List UInt8) (e : Int) (he : byE s.data.toList = e) (hl : byB s.data.toList = l) :
    Calls Try.prog 27 #[.string s] w fun en w' => ∃ v, en = .returned (.tuple #[v, .int .i64 e]) ∧ Ow 5 w' w.heap.size v l ∧ Kp w w' := by
  have := bytes_any s w hs
  unfold BY at this
  rw [he, hl] at this
  exact this
theorem text_at (v : Value) (l : List UInt8) (w : World) (h : Rd w v l) (hl : l.length ≤ 1000000) (s : ByteArray) (hs : ⟨(textB l).toArray⟩ = s) :
    Calls Try.prog 31 #[v] w fun e w' => e = .returned (.string s) ∧ Kp w w' := by
  have := text_any v l w h hl
  rw [hs] at this
  exact this
theorem same_at (u v : Value) (l m : List UInt8) (b : Bool) (w : World) (h : Rd w u l) (h' : Rd w v m) (hb : decide (l = m) = b) :
    Calls Try.prog 16 #[u, v] w fun e w' => e = .returned (.bool b) ∧ w = w' := by
  have := same_any u v l m w h h'
  rw [hb] at this
  exact this

set_option maxRecDepth 100000 in
set_option maxHeartbeats 1600000 in
theorem shown_any (w : World) : Calls Try.prog 11 #[] w fun e w' => e = .returned (.bool true) ∧ Kp w w' := by
  go_enter Try.func11, Try.ntmps11
  go_wp2_with fail
  refine (len_at 37 [37] _ (by decide) (by decide)).mono ?_
  rintro e w1 ⟨v1, rfl, o1, k1⟩
  go_wp2_with fail
  refine (len_at 15293 [123, 189] _ (by decide) (by decide)).mono ?_
  rintro e w2 ⟨v2, rfl, o2, k2⟩
  go_wp2_with fail
  refine (len_at 494878333 [157, 127, 62, 125] _ (by decide) (by decide)).mono ?_
  rintro e w3 ⟨v3, rfl, o3, k3⟩
  go_wp2_with fail
  refine (row_at _ [1, 2] [2, 1, 2] _ ?_ (by decide) (by decide)).mono ?_
  · exact (Ow.lit w3 5 _ 2 _ [1, 2] (Nat.le_refl _) rfl (by omega) rfl).rd
  rintro e w4 ⟨v4, rfl, o4, k4⟩
  have k4' : Kp w3 w4 := ((Kp.refl w3).alloc _).trans k4
  go_wp2_with fail
  refine (takeLen_at _ [157, 127, 62, 125] _ 494878333 4 0 _ (o3.rd.kp k4') (by decide) (by decide) (by decide)).mono ?_
  rintro e w5 ⟨rfl, k5⟩
  go_wp2_with fail
  refine (bytes_at _ _ (by decide) [157, 127, 62, 125] 0 (by decide) (by decide)).mono ?_
  rintro e w6 ⟨v6, rfl, o6, k6⟩
  have a6 := k5.trans k6
  go_wp2_with fail
  refine (text_at _ [37] _ (o1.rd.kp (((k2.trans k3).trans k4').trans a6)) (by decide) ⟨#[50, 53]⟩ (by decide)).mono ?_
  rintro e w7 ⟨rfl, k7⟩
  go_wp2_with fail
  refine (text_at _ [123, 189] _ (o2.rd.kp (((k3.trans k4').trans a6).trans k7)) (by decide) ⟨#[55, 98, 98, 100]⟩ (by decide)).mono ?_
  rintro e w8 ⟨rfl, k8⟩
  have a8 := (a6.trans k7).trans k8
  go_wp2_with fail
  refine (text_at _ [157, 127, 62, 125] _ (o3.rd.kp (k4'.trans a8)) (by decide) ⟨#[57, 100, 55, 102, 51, 101, 55, 100]⟩ (by decide)).mono ?_
  rintro e w9 ⟨rfl, k9⟩
  go_wp2_with fail
  refine (text_at _ [2, 1, 2] _ (o4.rd.kp (a8.trans k9)) (by decide) ⟨#[48, 50, 48, 49, 48, 50]⟩ (by decide)).mono ?_
  rintro e w10 ⟨rfl, k10⟩
  have a10 := (a8.trans k9).trans k10
  go_wp2_with fail
  refine (same_at _ _ [157, 127, 62, 125] [157, 127, 62, 125] true _ (o6.rd.kp (((k7.trans k8).trans k9).trans k10)) (o3.rd.kp (k4'.trans a10)) (by decide)).mono ?_
  rintro e w11 ⟨rfl, rfl⟩
  go_wp2_with fail
  go_ret
  exact ⟨rfl, (((k1.trans k2).trans k3).trans k4').trans a10⟩
end Go.Proofs.Ytpaopnjknpoacaa
