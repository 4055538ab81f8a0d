import Derived.Test.YthmhklmkgkfcpaaGreatDoorV27
set_option linter.all false
set_option maxHeartbeats 8000000
set_option maxRecDepth 100000
namespace Go.Proofs.YthmhklmkgkfcpaaGreatDoor
open Go.Proofs.Tryz Go.RowKit
variable {Z:Nat->Prop}{i j:Nat}{l:List St}{v:Value}{w:World}
structure Hp (p:Prop):Prop where
 out:p
theorem Hq {p:Prop}{F Q:Nat->Value->Value->World->Prop}(ways:Hp (∀ g v a W,F g v a W->Q g v a W)->p)(rest:∀ g v a W,F g v a W->Q g v a W):p:=ways ⟨rest⟩
theorem yw:(prog.info? 27).map (·.size)=some 2:=by kernel_rfl
theorem Hr (h:j<l.length):l.set j (am l j)=l:=by
 have e:am l j=l[j]:=by unfold am;rw[Iw,Iy h];rfl
 rw[e,Lo]
theorem Hs {l:List Se}(h:j<l.length):l.set j (aM l j)=l:=by
 have e:aM l j=l[j]:=by unfold aM;rw[Iw,Iy h];rfl
 rw[e,Lo]
theorem SZ.nodeSt (h:SZ bJ Z w v l)(f:i<l.length):
  ∃ b d c p q,v=.slice (some ⟨b,d,none⟩) l.length c/\b<w.heap.size/\∀ W,Kp w W->W.cell? ⟨b,d+i*2,none⟩=some p/\W.cell? ⟨b,d+i*2+1,none⟩=some q/\RZ Z W p (am l i).pub/\SZ dl Z W q (am l i).fors:=by
 obtain⟨a,c,rfl,x,u⟩:=SE.shape h.1;obtain⟨b,d,rfl,n,m⟩:=SE.at h.1 (by omega);obtain⟨vs,j,g⟩:=m i l[i] (Iy f);obtain⟨p,q,t,s,r,o⟩:=nW j g;have e:am l i=l[i]:=by unfold am;rw[Iw,Iy f];rfl
 rw[e];exact⟨b,d,c,p,q,rfl,n,λW k=>⟨k.cell t,k.cell s,r.kp k,o.kp k⟩⟩
theorem SZ.nodeSe {l:List Se}(h:SZ dl Z w v l)(f:i<l.length):
  ∃ b d c p q,v=.slice (some ⟨b,d,none⟩) l.length c/\b<w.heap.size/\∀ W,Kp w W->W.cell? ⟨b,d+i*2,none⟩=some p/\W.cell? ⟨b,d+i*2+1,none⟩=some q/\RZ Z W p (aM l i).half/\RZ Z W q (aM l i).b:=by
 obtain⟨a,c,rfl,x,u⟩:=SE.shape h.1;obtain⟨b,d,rfl,n,m⟩:=SE.at h.1 (by omega);obtain⟨vs,j,g⟩:=m i l[i] (Iy f);obtain⟨p,q,t,s,r,o⟩:=qc j g;have e:aM l i=l[i]:=by unfold aM;rw[Iw,Iy f];rfl
 rw[e];exact⟨b,d,c,p,q,rfl,n,λW k=>⟨k.cell t,k.cell s,r.kp k,o.kp k⟩⟩
structure Ht (p:Pa)(M:Nat):Prop where
 out:p.step.length=M
theorem Hu (x y : Value) (p : Pa) (Z : Nat -> Prop) (w : World) (hx : RZ Z w x p.pub) (hy : SZ bJ Z w y p.step) (hZ : ∀ g, Z g -> g < w.heap.size) (hl : p.step.length <= 10000) (b2 : p.pub.length <= 10000)
    (bq : ∀ j, j < p.step.length -> (am p.step j).pub.length <= 10000 /\ (am p.step j).fors.length <= 10000 /\ ∀ k, k < (am p.step j).fors.length -> (aM (am p.step j).fors k).half.length <= 10000 /\ (aM (am p.step j).fors k).b.length <= 10000) :
    Calls prog 72 #[.agg #[x, y]] w λe w' => (∃ x' y', e = .returned (.agg #[x', y']) /\ RZ Z w' x' p.pub /\ SZ bJ Z w' y' p.step) /\ Kp w w' := by
  have HX := Lib.hid hx
  have HY := Lib.hid hy
  have bj := Lib.hid hy.olds
  have HZ := Lib.hid hZ
  have bT := Lib.hid bq
  have a4 := Lib.hid (λW (v : Value) (l : List UInt8) (hv : Rd W v l) (hl : l.length <= 10000) => qL v l W hv (by omega))
  have cI := Lib.hid (λW (v : Value) (t : List St) (Z : Nat -> Prop) (hv : SZ bJ Z W v t) (hl : t.length <= 10000) => Hn v t Z W hv (by omega))
  have cJ := Lib.hid (λW (v : Value) (t : List Se) (Z : Nat -> Prop) (hv : SZ dl Z W v t) (hl : t.length <= 10000) => Ho v t Z W hv (by omega))
  obtain ⟨ax, nx, cx, rfl⟩ := aA hx.1
  obtain ⟨ay, cy, rfl, p1, s1⟩ := SE.shape hy.1
  clear hx hy hZ bq
  go_enter func72, ntmps72
  go_wp2_with fail
  obtain ⟨a, aC⟩ : ∃ a, (w.alloc (.cells #[.slice ax nx cx, .slice ay p.step.length cy] 27)).alloc (.cells #[.slice none 0 0, .slice none 0 0] 27) = a := ⟨_, rfl⟩
  have HB : Hid (Bx a w.heap.size 27 #[.slice ax nx cx, .slice ay p.step.length cy]) := by unfold Hid; rw [<-aC]; exact (Bx.new w _ _).kp ((Kp.refl _).alloc _)
  have bm : Hid (Bx a (w.heap.size + 1) 27 #[.slice none 0 0, .slice none 0 0]) := by
    unfold Hid
    have := Bx.new (w.alloc (.cells #[.slice ax nx cx, .slice ay p.step.length cy] 27)) 27 #[.slice none 0 0, .slice none 0 0]
    rw [IQ] at this
    rw [<-aC]; exact this
  have K1 : Hid (Kp w a) := by unfold Hid; rw [<-aC]; exact ((Kp.refl _).alloc _).alloc _
  rw [aC]
  clear aC
  have cZ : Hid (∀ n, p.step.length = n -> p.step.length = n) := λn h => h
  generalize hM : p.step.length = M at *
  have bV := Lib.hid hM
  have cC : Ht p M := ⟨hM⟩
  obtain ⟨V, bD⟩ : ∃ V : Nat -> Prop, V = λk => k = w.heap.size + 1 \/ Z k := ⟨_, rfl⟩
  have s : Hid ((∀ g, V g -> Z g \/ w.heap.size <= g) /\ (∀ g, V g -> g < a.heap.size) /\ (∀ g, Z g -> V g) /\ V (w.heap.size + 1)) := by
    have := (Iz.1 bm.out).1
    unfold Hid
    rw [bD]
    exact ⟨λg A => A.elim (λe => .inr (by omega)) .inl, λg A => A.elim (λe => by omega) λA => by have := HZ.out g A; omega, λg A => .inr A, .inl rfl⟩
  clear bD
  have HS : Hid (∀ W, Kp a W -> W.cell? ⟨w.heap.size, 0, none⟩ = some (.slice ax nx cx) /\ W.cell? ⟨w.heap.size, 1, none⟩ = some (.slice ay M cy)) := λW hW => ⟨(HB.out.kp hW).cell 0, (HB.out.kp hW).cell 1⟩
  have KD : Hid (Kp a a.drew) := (Kp.refl a).drew
  have aV : Hid (Kp a (a.alloc (.cells #[.slice none 0 0, .slice none 0 0] 27)).drew) := ((Kp.refl a).alloc _).drew
  have bz := Lib.hid (HS.out _ KD.out)
  have S0 := Lib.hid (HS.out _ aV.out)
  have bQ : Hid (Bx (a.alloc (.cells #[.slice none 0 0, .slice none 0 0] 27)).drew a.heap.size 27 #[.slice none 0 0, .slice none 0 0]) := (Bx.new a _ _).kp (Kp.refl _).drew
  obtain ⟨e0, e1⟩ := HS.out a (Kp.refl _)
  clear hM
  refine Hq (Q := ?QL) (F := λg v v' W => Bx W g 27 #[v, v'] /\ Kp a W /\ a.heap.size <= g /\ g < W.heap.size /\ Rd W v p.pub /\ bg a.heap.size v /\ GZ bJ 74 V W a.heap.size v' p.step /\ (∀ k, v'.ownBlock = some k -> k ≠ g) /\ bk (λk => v'.ownBlock = some k) v) ?ways ?rest
  case ways =>
    intro key
    go_region_held3 (λW => W.cell? ⟨w.heap.size, 0, none⟩ = some (.slice ax nx cx) /\ W.cell? ⟨w.heap.size, 1, none⟩ = some (.slice ay M cy))
      (first | with_reducible exact S0.out | with_reducible exact bz.out | with_reducible exact S2.out | with_reducible exact cn.out | with_reducible exact S3.out | with_reducible exact cm.out | with_reducible exact S4.out | with_reducible exact S5.out | fail)
      (first
        | (go_at_call 121; refine (cI.out _ _ p.step (λg => Z g \/ w.heap.size <= g) (by first | exact bj.out.kp (K1.out.trans K2.out) | exact bj.out.kp (K1.out.trans an.out)) (by rw [bV.out]; exact hl)).mono ?_; rintro _ f ⟨⟨v3, rfl, o3⟩, k3⟩; obtain ⟨U, N, T, rfl⟩ := SE.sl o3.gl; have K3 : Hid (Kp a f) := (by first | exact K2.out.trans k3 | exact an.out.trans k3); have S3 := Lib.hid (HS.out _ K3.out); have O3 := Lib.hid o3; have cm := Lib.hid (HS.out _ (K3.out.alloc (.cells #[.slice none 0 0, .slice none 0 0] 27))); have S4 := Lib.hid (HS.out _ (K3.out.alloc (.cells #[.slice a2 n2 c2, .slice U N T] 27))); have bn : Hid (Rd f (.slice a2 n2 c2) p.pub) := (by first | exact O2.out.rd.kp k3 | exact (O2.out.rd.kp ((Kp.refl w2).alloc _)).kp k3);
            (try (have u : Hid (Bx f w2.heap.size 27 #[.slice none 0 0, .slice none 0 0]) := bP.out.kp k3; have E : Hid (a.heap.size <= w2.heap.size /\ w2.heap.size < f.heap.size) := ⟨K2.out.size, (Iz.1 u.out).1⟩; have aL : Hid (∀ k, (Value.slice U N T).ownBlock = some k -> k ≠ w2.heap.size) := (λk i e => by have := (o3.lt k i).1; simp at this; omega); have aJ := Lib.hid (sj u.out (.slice a2 n2 c2) (.slice U N T)); have S5 := Lib.hid (HS.out _ (aJ.out.2.2 a K3.out E.out.1)); have d := u.out.there; have j0 := u.out.cell 0; have j1 := u.out.cell 1; have f0 := (d 0 (by decide)).2; have f1 := (d 1 (by decide)).2; clear d; rw [JA] at f0 f1; simp only [IJ, IF, IK] at j0 j1));
            (try (have u : Hid (Bx f a.heap.size 27 #[.slice none 0 0, .slice none 0 0]) := bO.out.kp k3; have E : Hid (a.heap.size <= a.heap.size /\ a.heap.size < f.heap.size) := ⟨IB _, (Iz.1 u.out).1⟩; have aL : Hid (∀ k, (Value.slice U N T).ownBlock = some k -> k ≠ a.heap.size) := (λk i e => by have := (o3.lt k i).1; have := (Iz.1 bO.out).1; omega); have aJ := Lib.hid (sj u.out (.slice a2 n2 c2) (.slice U N T)); have S5 := Lib.hid (HS.out _ (aJ.out.2.2 a K3.out E.out.1)); have d := u.out.there; have j0 := u.out.cell 0; have j1 := u.out.cell 1; have f0 := (d 0 (by decide)).2; have f1 := (d 1 (by decide)).2; clear d; rw [JA] at f0 f1; simp only [IJ, IF, IK] at j0 j1)))
        | (go_at_call 109; refine (a4.out _ _ p.pub (by first | exact HX.out.1.kp (K1.out.trans KD.out) | exact HX.out.1.kp (K1.out.trans aV.out)) b2).mono ?_; rintro _ w2 ⟨v2, rfl, o2, k2⟩; obtain ⟨a2, n2, c2, rfl⟩ := aA o2.rd; have K2 : Hid (Kp a w2) := (by first | exact KD.out.trans k2 | exact aV.out.trans k2); have O2 := Lib.hid o2; have bi : Hid (bg a.heap.size (.slice a2 n2 c2)) := (λg A => by have := (Jw o2 g A).1; first | exact this | (simp at this; omega)); have S2 := Lib.hid (HS.out _ K2.out); have an : Hid (Kp a (w2.alloc (.cells #[.slice none 0 0, .slice none 0 0] 27))) := K2.out.alloc _; have cn := Lib.hid (HS.out _ an.out); have bP : Hid (Bx (w2.alloc (.cells #[.slice none 0 0, .slice none 0 0] 27)) w2.heap.size 27 #[.slice none 0 0, .slice none 0 0]) := Bx.new w2 _ _; try (have bO : Hid (Bx w2 a.heap.size 27 #[.slice none 0 0, .slice none 0 0]) := bQ.out.kp k2)))
    all_goals (
      obtain ⟨u2, ak⟩ : ∃ x, Value.slice a2 n2 c2 = x := ⟨_, rfl⟩
      obtain ⟨u3, ai⟩ : ∃ x, Value.slice U N T = x := ⟨_, rfl⟩
      first
        | (obtain ⟨S, R⟩ : ∃ x, f.heap.size = x := ⟨_, rfl⟩
           obtain ⟨H, O⟩ : ∃ x, f.alloc (.cells #[.slice a2 n2 c2, .slice U N T] 27) = x := ⟨_, rfl⟩
           have hF : Bx H S 27 #[u2, u3] /\ Kp a H /\ a.heap.size <= S /\ S < H.heap.size /\ Rd H u2 p.pub /\ bg a.heap.size u2 /\ GZ bJ 74 V H a.heap.size u3 p.step /\ (∀ k, u3.ownBlock = some k -> k ≠ S) /\ bk (λk => u3.ownBlock = some k) u2 := by
             rw [<-O, <-R, <-ak, <-ai]
             exact ⟨Bx.new f _ _, K3.out.alloc _, K3.out.size, by simp, bn.out.kp ((Kp.refl f).alloc _), bi.out, ((O3.out.solidly λg A => .inr (.inl (.inl (s.out.1 g A)))).mono (by first | exact K2.out.size | exact an.out.size)).kp ((Kp.refl f).alloc _), λk i e => by have := (O3.out.lt k i).2; omega, mX (w := w2) O2.out.rd.inside λg A => by have := (O3.out.lt g A).1; first | exact this | (simp at this; omega)⟩
           rw [O, R, ak, ai]
           exact key.out S u2 u3 H hF)
        | (obtain ⟨S, R⟩ : ∃ x, w2.heap.size = x := ⟨_, rfl⟩
           obtain ⟨H, O⟩ : ∃ x, (f.setCell ⟨w2.heap.size, 0, none⟩ (.slice a2 n2 c2)).setCell ⟨w2.heap.size, 1, none⟩ (.slice U N T) = x := ⟨_, rfl⟩
           have h5 := aJ.out
           have ae := h5.2.1
           have hF : Bx H S 27 #[u2, u3] /\ Kp a H /\ a.heap.size <= S /\ S < H.heap.size /\ Rd H u2 p.pub /\ bg a.heap.size u2 /\ GZ bJ 74 V H a.heap.size u3 p.step /\ (∀ k, u3.ownBlock = some k -> k ≠ S) /\ bk (λk => u3.ownBlock = some k) u2 := by
             rw [<-O, <-R, <-ak, <-ai]
             refine ⟨h5.1, h5.2.2 a K3.out E.out.1, E.out.1, II E.out.2 ae.size, bn.out.step8 ae (λg e => by subst e; exact bS.box u.out (λj z hj => by
               match j with
               | 0 => cases hj; exact λn e => by cases e
               | 1 => cases hj; exact λn e => by cases e
               | j + 2 => simp at hj)), bi.out, ?_, aL.out, mX (w := w2) O2.out.rd.inside λg A => by have := (O3.out.lt g A).1; first | exact this | (simp at this; omega)⟩
             exact ((O3.out.step (Y := λg => g = w2.heap.size) ae (λg e => .inl (.inl (.inr (by have := K1.out.size; have := E.out.1; omega)))) (λg A e => aL.out g A e)).solidly λg A => .inr (.inl (.inl (s.out.1 g A)))).mono (by first | exact K2.out.size | exact an.out.size)
           rw [O, R, ak, ai]
           exact key.out S u2 u3 H hF)
        | (obtain ⟨S, R⟩ : ∃ x, a.heap.size = x := ⟨_, rfl⟩
           obtain ⟨H, O⟩ : ∃ x, (f.setCell ⟨a.heap.size, 0, none⟩ (.slice a2 n2 c2)).setCell ⟨a.heap.size, 1, none⟩ (.slice U N T) = x := ⟨_, rfl⟩
           have h5 := aJ.out
           have ae := h5.2.1
           have hF : Bx H S 27 #[u2, u3] /\ Kp a H /\ a.heap.size <= S /\ S < H.heap.size /\ Rd H u2 p.pub /\ bg a.heap.size u2 /\ GZ bJ 74 V H a.heap.size u3 p.step /\ (∀ k, u3.ownBlock = some k -> k ≠ S) /\ bk (λk => u3.ownBlock = some k) u2 := by
             rw [<-O, <-R, <-ak, <-ai]
             refine ⟨h5.1, h5.2.2 a K3.out E.out.1, E.out.1, II E.out.2 ae.size, bn.out.step8 ae (λg e => by subst e; exact bS.box u.out (λj z hj => by
               match j with
               | 0 => cases hj; exact λn e => by cases e
               | 1 => cases hj; exact λn e => by cases e
               | j + 2 => simp at hj)), bi.out, ?_, aL.out, mX (w := w2) O2.out.rd.inside λg A => by have := (O3.out.lt g A).1; first | exact this | (simp at this; omega)⟩
             exact ((O3.out.step (Y := λg => g = a.heap.size) ae (λg e => .inl (.inl (.inr (by have := K1.out.size; have := E.out.1; omega)))) (λg A e => aL.out g A e)).solidly λg A => .inr (.inl (.inl (s.out.1 g A)))).mono (by first | exact K2.out.size | exact an.out.size)
           rw [O, R, ak, ai]
           exact key.out S u2 u3 H hF))
  case rest =>
    rintro g v v' W ⟨o, i, bB, bA, J, bu, ad, bv, bC⟩
    obtain ⟨av, nv, cv, rfl⟩ := aA J
    obtain ⟨a', c', rfl, aW, s3⟩ := SE.shape ad.gl
    rw [bV.out] at *
    have HG := Lib.hid (IC bB bA)
    have cz := Lib.hid bv
    have cF := Lib.hid bC
    have cA : Hid (∀ k, (Value.slice a' M c').ownBlock = some k -> a.heap.size <= k /\ k < W.heap.size) := ad.lt
    have a0 : Hid (Bx W g 27 #[.slice av nv cv, .slice a' M c'] /\ Rd W (.slice av nv cv) p.pub /\ GZ bJ 74 V W a.heap.size (.slice a' M c') p.step /\ Kp a W) := ⟨o, J, ad, i⟩
    have cw := Lib.hid bu
    have co : Hid (w.heap.size + 2 <= a.heap.size) := by have := (Iz.1 bm.out).1; unfold Hid; omega
    have aY := Lib.hid (λj (hj : j < M) => bT.out j hj)
    obtain ⟨ch, cg⟩ := HS.out W i
    clear o i bB bA J bu ad bv bC KD aV bz S0 bQ e0 e1 bT
    go_wp2_with fail
    go_loopw [19] (λz wr => ∃ j : Nat, j <= M /\ z = .int .i64 (j : Int) /\ Bx wr g 27 #[.slice av nv cv, .slice a' M c'] /\ Rd wr (.slice av nv cv) p.pub /\ GZ bJ 74 V wr a.heap.size (.slice a' M c') p.step /\ Kp a wr /\ W.heap.size <= wr.heap.size) (λz _ => (M - (intOf z).toNat))
    case atStart => exact ⟨0, IO _, rfl, a0.out.1, a0.out.2.1, a0.out.2.2.1, a0.out.2.2.2, IB _⟩
    case round =>
      obtain ⟨j, hj, rfl, o, J, ad, i, bp⟩ := hrel
      have B := Lib.hid (IC o (IC J (IC ad (IC i bp))))
      clear o J ad i bp ch cg
      by_cases aQ : j < M
      · have bF : p.step.length = M := cC.out
        have ba : j < p.step.length := by omega
        obtain ⟨cX, oy, cV, px, qx, ey, _, al⟩ := SZ.nodeSt bj.out ba
        rw [bF] at ey
        cases ey
        have a1 := Lib.hid al
        have KR := Lib.hid (K1.out.trans B.out.2.2.2.1)
        obtain ⟨dp, dq, bt, br⟩ := al wr KR.out
        obtain ⟨ah, ab, ag, rfl⟩ := aA bt.1
        obtain ⟨aU, bo, aT, rfl⟩ := SE.sl br.1
        obtain ⟨I, ck, ev, cc, cb, ca, b9, b8⟩ := B.out.2.2.1.form (by omega)
        rw [bF] at ev
        cases ev
        have D : Hid (a.heap.size <= I /\ I < W.heap.size) := cA.out I rfl
        obtain ⟨WQ, aS⟩ : ∃ x, wr.alloc (.cells #[.slice ah ab ag, .slice aU bo aT] 74) = x := ⟨_, rfl⟩
        have KQ : Hid (Kp wr WQ) := by unfold Hid; rw [<-aS]; exact (Kp.refl _).alloc _
        have aZ : Hid (Bx WQ wr.heap.size 74 #[.slice ah ab ag, .slice aU bo aT]) := by unfold Hid; rw [<-aS]; exact Bx.new wr _ _
        have aa : Hid (WQ.heap.size = wr.heap.size + 1) := by unfold Hid; rw [<-aS]; exact IQ _ _
        have bL := aZ.out.cell 1
        have i4 : (j : Int) < (M : Int) := by omega
        simp only [IJ, IF, IK] at bL
        clear al bt br cc cb ca b9 b8 s1 s3
        go_wp2_with fail
        try rw [aS]
        have a8 := a1.out WQ (KR.out.trans KQ.out)
        refine (cJ.out WQ _ (am p.step j).fors _ a8.2.2.2 (aY.out j aQ).2.1).mono ?_; rintro _ w6 ⟨⟨v6, rfl, o6⟩, k6⟩
        obtain ⟨a6, c6, rfl, p6, s6⟩ := SE.shape o6.gl
        obtain ⟨cY, cW, cf, cN, b0⟩ := SE.shape a8.2.2.2.1
        cases cf
        clear a8
        have O6 : Hid (GZ dl 92 (λb => b = I \/ V b) w6 WQ.heap.size (.slice a6 (am p.step j).fors.length c6) (am p.step j).fors) := o6.solidly λb o => .inr (.inl (.inl (o.elim (λe => .inr (by have := D.out.1; have := co.out; omega)) λo => s.out.1 b o)))
        have c0 : Hid (∀ k, (Value.slice a6 (am p.step j).fors.length c6).ownBlock = some k -> WQ.heap.size <= k /\ k < w6.heap.size) := o6.lt
        have K6 := Lib.hid k6
        have cH := Lib.hid (aY.out j aQ).2.2
        have cq : Hid (SZ dl (λg => Z g \/ w.heap.size <= g) WQ (.slice aU (am p.step j).fors.length aT) (am p.step j).fors) := (a1.out WQ (KR.out.trans KQ.out)).2.2.2
        have cr : Hid (RZ (λg => Z g \/ w.heap.size <= g) WQ (.slice ah ab ag) (am p.step j).pub) := (a1.out WQ (KR.out.trans KQ.out)).2.2.1
        have ct := Lib.hid (aY.out j aQ).1
        have cU := (aY.out j aQ).2.1
        generalize bH : (am p.step j).fors = FL at *
        generalize bE : (am p.step j).pub = PJ at *
        have cp : Hid (∀ W, Kp WQ W -> W.cell? ⟨wr.heap.size, 0, none⟩ = some (.slice ah ab ag) /\ W.cell? ⟨wr.heap.size, 1, none⟩ = some (.slice aU FL.length aT)) := λW hW => ⟨(aZ.out.kp hW).cell 0, (aZ.out.kp hW).cell 1⟩
        have bX := Lib.hid (IC bH bE)
        generalize hL : FL.length = L at *
        have cB := Lib.hid hL
        obtain ⟨cj, ci⟩ := cp.out w6 K6.out
        generalize cS : wr.heap.size = q5 at *
        clear bH bE hL o6 k6 dp dq bL s6 b0 a1
        go_wp2_with fail
        go_loopw [30] (λz wi => ∃ m : Nat, m <= L /\ z = .int .i64 (m : Int) /\ GZ dl 92 (λb => b = I \/ V b) wi WQ.heap.size (.slice a6 L c6) FL /\ Kp WQ wi) (λz _ => (L - (intOf z).toNat))
        case atStart => exact ⟨0, IO _, rfl, O6.out, K6.out⟩
        case round =>
          obtain ⟨m, hm, rfl, ho, i⟩ := hrel
          have HO := Lib.hid (IC ho i)
          clear ho i cj ci
          by_cases b3 : m < L
          · have bG : FL.length = L := cB.out
            have a9 : m < FL.length := by omega
            obtain ⟨bs, os, cs, hx, bx, es, _, al⟩ := SZ.nodeSe cq.out a9
            rw [bG] at es
            cases es
            obtain ⟨dh, db, bb, bc⟩ := al _ HO.out.2
            obtain ⟨aF, au, aD, rfl⟩ := aA bb.1
            obtain ⟨aG, aw, aE, rfl⟩ := aA bc.1
            obtain ⟨g6, cl, e6, bK, bI, b7, b6, af⟩ := HO.out.1.form (by omega)
            rw [bG] at e6
            cases e6
            have aP : Hid (WQ.heap.size <= g6 /\ g6 < wr.heap.size) := ⟨bK, bI⟩
            clear bK bI b7 b6 af
            have im : (m : Int) < (L : Int) := by omega
            obtain ⟨WR, aR⟩ : ∃ x, wr.alloc (.cells #[.slice aF au aD, .slice aG aw aE] 92) = x := ⟨_, rfl⟩
            have aI : Hid (Kp wr WR) := by unfold Hid; rw [<-aR]; exact (Kp.refl _).alloc _
            have bl : Hid (Bx WR wr.heap.size 92 #[.slice aF au aD, .slice aG aw aE]) := by unfold Hid; rw [<-aR]; exact Bx.new wr _ _
            have bR : Hid (WR.heap.size = wr.heap.size + 1) := by unfold Hid; rw [<-aR]; exact IQ _ _
            have HH := Lib.hid bb.1
            have cK := Lib.hid bc.1
            have cu := Lib.hid (HO.out.1.kp aI.out)
            have ao := Lib.hid (HO.out.2.trans aI.out)
            have bW := Lib.hid (cH.out m b3)
            have aN : Hid (m < FL.length) := a9
            generalize cR : wr.heap.size = q8 at *
            have X : Hid (∀ W, Kp WR W -> W.cell? ⟨q8, 0, none⟩ = some (.slice aF au aD) /\ W.cell? ⟨q8, 1, none⟩ = some (.slice aG aw aE)) := λW hW => ⟨(bl.out.kp hW).cell 0, (bl.out.kp hW).cell 1⟩
            have S0 := Lib.hid (X.out _ (Kp.refl WR))
            have aH := Lib.hid (X.out _ ((Kp.refl WR).drew))
            clear al bb bc a9
            go_wp2_with fail
            try rw [aR]
            go_region_held3 (λW => W.cell? ⟨q8, 0, none⟩ = some (.slice aF au aD) /\ W.cell? ⟨q8, 1, none⟩ = some (.slice aG aw aE))
              (first | with_reducible exact S0.out | with_reducible exact aH.out | with_reducible exact S2.out | with_reducible exact S3.out | with_reducible exact S4.out | fail)
              (first
                | (go_at_call 109; refine (a4.out _ _ (aM FL m).b (cK.out.kp (aI.out.trans aX.out)) bW.out.2).mono ?_; rintro _ f ⟨v3, rfl, o3, k3⟩; obtain ⟨U, N, T, rfl⟩ := aA o3.rd; have r : Hid (Kp WR f) := aX.out.trans k3; have S3 := Lib.hid (X.out _ r.out)
                   have K := cu.out.kp r.out
                   obtain ⟨ce, cl, bh, _, _, _, _, af⟩ := K.form (LW (IO m) aN.out)
                   obtain ⟨bZ, ar, aq⟩ := af m _ (Iy aN.out)
                   have bf : ce = g6 := by simp only [IG, Jo, JY, and_true] at bh; exact bh.1.symm
                   obtain ⟨a7, a5, aB, az, _, _⟩ := qc ar aq
                   have j0 : f.cell? ⟨g6, m * 2, none⟩ = some a7 := bf ▸ aB
                   have j1 : f.cell? ⟨g6, m * 2 + 1, none⟩ = some a5 := bf ▸ az
                   have d := K.there m aN.out
                   have f0 : f.frozen? ⟨g6, m * 2, none⟩ = false := (d 0 (by decide)).2
                   have f1 : f.frozen? ⟨g6, m * 2 + 1, none⟩ = false := (d 1 (by decide)).2
                   have G := K.stored m aN.out (aM FL m) [.slice a2 n2 c2, .slice U N T] ⟨_, _, rfl, ⟨O2.out.rd.kp k3, dU (C := WR.heap.size) O2.out.own_ge λb o => o.elim (λe => by have := aP.out.2; have := bR.out; omega) λo => o.elim (λe => by have := D.out.2; have := B.out.2.2.2.2; have := aa.out; have := ao.out.size; omega) λo => by have := s.out.2.1 b o; have := D.out; have := B.out.2.2.2.2; have := aa.out; have := ao.out.size; omega⟩, ⟨o3.rd, dU (C := WR.heap.size) (λk i => IU aX.out.size (o3.own_ge k i)) λb o => o.elim (λe => by have := aP.out.2; have := bR.out; omega) λo => o.elim (λe => by have := D.out.2; have := B.out.2.2.2.2; have := aa.out; have := ao.out.size; omega) λo => by have := s.out.2.1 b o; have := D.out; have := B.out.2.2.2.2; have := aa.out; have := ao.out.size; omega⟩⟩
                   rw [Hs aN.out] at G
                   have aK := Lib.hid G
                   have ap := Lib.hid ((bl.out.kp r.out).grown G.2 (λe => by cases e; exact Nat.lt_irrefl _ aP.out.2))
                   have S4 : Hid (((f.setCell ⟨g6, m * 2, none⟩ (.slice a2 n2 c2)).setCell ⟨g6, m * 2 + 1, none⟩ (.slice U N T)).cell? ⟨q8, 0, none⟩ = some (.slice aF au aD) /\ ((f.setCell ⟨g6, m * 2, none⟩ (.slice a2 n2 c2)).setCell ⟨g6, m * 2 + 1, none⟩ (.slice U N T)).cell? ⟨q8, 1, none⟩ = some (.slice aG aw aE)) := ⟨ap.out.cell 0, ap.out.cell 1⟩
                   clear G d af ar aq K aB az bh bf)
                | (go_at_call 109; refine (a4.out _ _ (aM FL m).half (by first | exact HH.out.kp aI.out | exact HH.out.kp (aI.out.trans (Kp.refl _).drew)) bW.out.1).mono ?_; rintro _ w2 ⟨v2, rfl, o2, k2⟩; obtain ⟨a2, n2, c2, rfl⟩ := aA o2.rd; have aX : Hid (Kp WR w2) := (by first | exact k2 | exact (Kp.refl WR).drew.trans k2); have O2 := Lib.hid (Ow.mono o2 (IB _)); have S2 := Lib.hid (X.out _ aX.out)))
            all_goals (
              clear S0 aH S2 S3 S4 j0 j1 f0 f1
              go_wp2_with fail
              have c := aK.out
              go_roundw
              case rel => exact ⟨m + 1, by omega, by go_num, (by first | exact c.1 | exact c.1.kp (Kp.refl _).drew), (by first | exact Kp.grown (v := .slice (some ⟨g6, 0, none⟩) L c6) (ao.out.trans r.out) c.2 (λk i => by cases i; exact aP.out.1) | exact (Kp.grown (v := .slice (some ⟨g6, 0, none⟩) L c6) (ao.out.trans r.out) c.2 (λk i => by cases i; exact aP.out.1)).drew)⟩
              case measure => simp [intOf]; omega)
          · obtain rfl : m = L := by omega
            have cT : ¬ (m : Int) < (m : Int) := by omega
            have KO := Lib.hid (KQ.out.trans HO.out.2)
            have cD := Lib.hid (B.out.2.2.1.kp KO.out)
            have bY := Lib.hid (B.out.1.kp KO.out)
            have bN := Lib.hid (aZ.out.kp HO.out.2)
            have X : Hid (∀ W, Kp wr W -> W.cell? ⟨g, 1, none⟩ = some (.slice (some ⟨I, 0, none⟩) M c') /\ W.cell? ⟨q5, 0, none⟩ = some (.slice ah ab ag)) := λW hW => ⟨(bY.out.kp hW).cell 1, (bN.out.kp hW).cell 0⟩
            have S0 := Lib.hid (X.out _ (Kp.refl wr))
            have aH := Lib.hid (X.out _ ((Kp.refl wr).drew))
            have aO : Hid (j < p.step.length) := ba
            have bM := Lib.hid (cr.out.1.kp HO.out.2)
            clear ba
            go_wp2_with fail
            go_region_held3 (λW => W.cell? ⟨g, 1, none⟩ = some (.slice (some ⟨I, 0, none⟩) M c') /\ W.cell? ⟨q5, 0, none⟩ = some (.slice ah ab ag))
              (first | with_reducible exact S0.out | with_reducible exact aH.out | with_reducible exact S3.out | with_reducible exact S4.out | fail)
              (first | (go_at_call 109; refine (a4.out _ _ PJ (by first | exact bM.out | exact bM.out.kp (Kp.refl _).drew) ct.out).mono ?_; rintro _ f ⟨v3, rfl, o3, k3⟩; obtain ⟨U, N, T, rfl⟩ := aA o3.rd; have r : Hid (Kp wr f) := (by first | exact k3 | exact (Kp.refl wr).drew.trans k3); have S3 := Lib.hid (X.out _ r.out); have K := cD.out.kp r.out; obtain ⟨cd, ck, bd, _, _, _, _, af⟩ := K.form (LW (IO j) aO.out); obtain ⟨bZ, ar, aq⟩ := af j _ (Iy aO.out); obtain ⟨a7, a5, aB, az, _, _⟩ := nW ar aq; have be : cd = I := (by simp only [IG, Jo, JY, and_true] at bd; exact bd.1.symm); have j0 : f.cell? ⟨I, j * 2, none⟩ = some a7 := be ▸ aB; have j1 : f.cell? ⟨I, j * 2 + 1, none⟩ = some a5 := be ▸ az; have d := K.there j aO.out; have f0 : f.frozen? ⟨I, j * 2, none⟩ = false := (d 0 (by decide)).2; have f1 : f.frozen? ⟨I, j * 2 + 1, none⟩ = false := (d 1 (by decide)).2; have G := K.stored j aO.out (am p.step j) [.slice U N T, .slice a6 m c6] ⟨_, _, rfl, by rw [bX.out.2]; exact ⟨o3.rd, dU (C := wr.heap.size) (λk i => (by have := o3.own_ge k i; first | exact this | (simp at this; omega))) λb o => o.elim (λe => by have := D.out.2; have := B.out.2.2.2.2; have := aa.out; have := HO.out.2.size; omega) λo => by have := s.out.2.1 b o; have := D.out; have := B.out.2.2.2.2; have := aa.out; have := HO.out.2.size; omega⟩, by rw [bX.out.1]; exact ⟨(HO.out.1.kp r.out).se, dU (C := WQ.heap.size) (λk i => (HO.out.1.lt k i).1) λb o => o.elim (λe => by have := D.out.2; have := B.out.2.2.2.2; have := aa.out; omega) λo => by have := s.out.2.1 b o; have := D.out; have := B.out.2.2.2.2; have := aa.out; omega⟩⟩; rw [Hr aO.out] at G; have aK := Lib.hid G; have ap := Lib.hid ((bY.out.kp r.out).grown G.2 (λe => cz.out I rfl (by cases e; rfl))); have cL := Lib.hid ((bN.out.kp r.out).grown G.2 (λe => by cases e; have := D.out.2; have := B.out.2.2.2.2; omega)); have S4 : Hid (((f.setCell ⟨I, j * 2, none⟩ (.slice U N T)).setCell ⟨I, j * 2 + 1, none⟩ (.slice a6 m c6)).cell? ⟨g, 1, none⟩ = some (.slice (some ⟨I, 0, none⟩) M c') /\ ((f.setCell ⟨I, j * 2, none⟩ (.slice U N T)).setCell ⟨I, j * 2 + 1, none⟩ (.slice a6 m c6)).cell? ⟨q5, 0, none⟩ = some (.slice ah ab ag)) := ⟨ap.out.cell 1, cL.out.cell 0⟩; clear G d af ar aq K aB az bd be))
            all_goals (
              clear S0 aH S3 S4 j0 j1 f0 f1
              go_wp2_with fail
              have c := aK.out
              have b1 : aj (λk => (Value.slice (some ⟨I, 0, none⟩) M c').ownBlock = some k) _ _ := ⟨c.2.os, c.2.tape, c.2.output, c.2.size, λq hq hn => c.2.block q hq λe => hn (by cases e; rfl)⟩
              have J := (B.out.2.1.kp (KO.out.trans r.out)).stepF b1 cF.out
              have bw := Kp.grown (v := .slice (some ⟨I, 0, none⟩) M c') (B.out.2.2.2.1.trans (KO.out.trans r.out)) c.2 (λk i => by cases i; exact D.out.1)
              have cM := c.2.size
              have cQ := r.out.size
              have cP := KO.out.size
              have cO := B.out.2.2.2.2
              go_roundw
              case rel => exact ⟨j + 1, by omega, by go_num, (by first | exact ap.out | exact ap.out.kp (Kp.refl _).drew), (by first | exact J | exact J.kp (Kp.refl _).drew), (by first | exact c.1 | exact c.1.kp (Kp.refl _).drew), (by first | exact bw | exact bw.drew), (by first | omega | (simp; omega))⟩
              case measure => simp [intOf]; omega)
      · obtain rfl : j = M := by omega
        have h1 : ¬ (j : Int) < (j : Int) := by omega
        have e3 := B.out.1.cell 0
        have e4 := B.out.1.cell 1
        simp only [IJ, IF, IK] at e3 e4
        have bU := Lib.hid (bm.out.kp B.out.2.2.2.1)
        have cG : Hid (RZ V wr (.slice av nv cv) p.pub) := ⟨B.out.2.1, dU cw.out s.out.2.1⟩
        have cE : Hid (SZ bJ V wr (.slice a' j c') p.step) := ⟨B.out.2.2.1.se, dU (C := a.heap.size) (λk i => (B.out.2.2.1.lt k i).1) s.out.2.1⟩
        go_wp2_with (refine fv rfl rfl 27 (.tmp 2) (.tmp 56) rfl (w.heap.size + 1) 27 _ #[.slice av nv cv, .slice a' j c'] rfl rfl bU.out rfl (lK rfl rfl) yw ?_; intro wq b5 gq b4)
        have SG : Hid (aj V wr wq) := ⟨gq.os, gq.tape, gq.output, gq.size, λq hq hn => gq.block q hq λe => hn (by cases e; exact s.out.2.2.2)⟩
        refine bodyPost_ret (results_cell_row (P := prog) rfl _ _ (w.heap.size + 1) _ _ (0, 0) _ rfl b5 underlying27 rfl yw) rfl ?_
        exact ⟨⟨_, _, rfl, (cG.out.step SG.out).mono s.out.2.2.1, (cE.out.step SG.out).mono s.out.2.2.1⟩, b4 w (K1.out.trans B.out.2.2.2.1) (LM _)⟩
