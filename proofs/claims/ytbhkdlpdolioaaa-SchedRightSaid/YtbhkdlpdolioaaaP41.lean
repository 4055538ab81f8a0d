import Derived.Test.YtbhkdlpdolioaaaP39
set_option linter.unusedVariables false
set_option linter.unusedSimpArgs false
set_option maxHeartbeats 8000000
set_option maxRecDepth 100000
namespace Go.Proofs.Ytbhkdlpdolioaaa
open Go.RowKit
def adH (E F:Eps):Nat→Bool
 | 0=>true
 | k+1=>decide (E.get k=F.get k) && adH E F k
theorem aeU (E F:Eps):adH E F 5=E.same F:=by
 simp only[adH,Eps.same,Eps.get,Bool.and_true];cases decide (E.i=F.i) <;> cases decide (E.s=F.s) <;> cases decide (E.x=F.x) <;> cases decide (E.c=F.c) <;> cases decide (E.r=F.r) <;> rfl
theorem abO (v0 v1 v2 v3 v4 u0 u1 u2' u3 u4':Value)(E F:Eps)(w:World)(h:EV w v0 v1 v2 v3 v4 E)(h':EV w u0 u1 u2' u3 u4' F):
  Calls Try.prog 29 #[.agg #[v0,v1,v2,v3,v4],.agg #[u0,u1,u2',u3,u4']] w fun e w'=>e=.returned (.bool (E.same F))∧Kp w w':=by
 have HS:=Lib.hid (aeU E F);obtain ⟨a0,c0,rfl,_,_⟩:=h.1.shape;obtain ⟨a1,c1,rfl,_,_⟩:=h.2.1.shape;obtain ⟨a2,c2,rfl,_,_⟩:=h.2.2.1.shape;obtain ⟨a3,c3,rfl,_,_⟩:=h.2.2.2.1.shape;obtain ⟨a4,c4,rfl,_,_⟩:=h.2.2.2.2.shape;obtain ⟨b0,d0,rfl,_,_⟩:=h'.1.shape;obtain ⟨b1,d1,rfl,_,_⟩:=h'.2.1.shape;obtain ⟨b2,d2,rfl,_,_⟩:=h'.2.2.1.shape;obtain ⟨b3,d3,rfl,_,_⟩:=h'.2.2.2.1.shape;obtain ⟨b4,d4,rfl,_,_⟩:=h'.2.2.2.2.shape;obtain ⟨W2,hW2⟩:∃ W2,(w.alloc (.cells #[.slice a0 E.i.length c0,.slice a1 E.s.length c1,.slice a2 E.x.length c2,.slice a3 E.c.length c3,.slice a4 E.r.length c4] 36)).alloc (.cells #[.slice b0 F.i.length d0,.slice b1 F.s.length d1,.slice b2 F.x.length d2,.slice b3 F.c.length d3,.slice b4 F.r.length d4] 36)=W2:=⟨_,rfl⟩;have K2:Hid (Kp w W2):=by unfold Hid;rw[← hW2];exact ((Kp.refl w).alloc _).alloc _
 have HE:Hid (∀ k,k<5→∃ af9,W2.cell? ⟨w.heap.size,k,none⟩=some af9∧Rd W2 af9 (E.get k)):=by
  have hb:Bx W2 w.heap.size 36 #[.slice a0 E.i.length c0,.slice a1 E.s.length c1,.slice a2 E.x.length c2,.slice a3 E.c.length c3,.slice a4 E.r.length c4]:=by rw[← hW2];exact (Bx.new w _ _).kp ((Kp.refl _).alloc _)
  exact hb.ev (h.kp K2.out)
 have HF:Hid (∀ k,k<5→∃ af9,W2.cell? ⟨w.heap.size+1,k,none⟩=some af9∧Rd W2 af9 (F.get k)):=by
  have hb:Bx W2 (w.heap.size+1) 36 #[.slice b0 F.i.length d0,.slice b1 F.s.length d1,.slice b2 F.x.length d2,.slice b3 F.c.length d3,.slice b4 F.r.length d4]:=by rw[← hW2,← World.size_alloc w (.cells #[.slice a0 E.i.length c0,.slice a1 E.s.length c1,.slice a2 E.x.length c2,.slice a3 E.c.length c3,.slice a4 E.r.length c4] 36)];exact Bx.new _ _ _
  exact hb.ev (h'.kp K2.out)
 clear h h';go_enter Try.func29,Try.ntmps29;go_wp2_with fail;clear hW2;refine (abf _ _).mono ?_;rintro _ w3 ⟨g3,rfl,p3,_,k3⟩;go_wp2_with fail;refine (abf _ _).mono ?_;rintro _ w4 ⟨g4,rfl,p4,_,k4⟩;have P3:=Lib.hid (p3.kp k4).ptr;have P4:=Lib.hid p4.ptr;have k34:=k3.trans k4;have HE4:Hid (∀ k,k<5→∃ af9,w4.cell? ⟨w.heap.size,k,none⟩=some af9∧Rd w4 af9 (E.get k)):=fun k hk=>by obtain ⟨af9,h1,h2⟩:=HE.out k hk;exact ⟨af9,k34.cell h1,h2.kp k34⟩
 have HF4:Hid (∀ k,k<5→∃ af9,w4.cell? ⟨w.heap.size+1,k,none⟩=some af9∧Rd w4 af9 (F.get k)):=fun k hk=>by obtain ⟨af9,h1,h2⟩:=HF.out k hk;exact ⟨af9,k34.cell h1,h2.kp k34⟩
 have K4:=Lib.hid (K2.out.trans k34);clear p3 p4 k3 k4 k34 HE HF K2;go_wp2_with fail;go_loopw[5,12] (fun s i wr=>∃ k:Nat,k≤5∧i=.int .i64 k∧s=.bool (adH E F k)∧Kp w4 wr) (fun _ i _=>5 - (intOf i).toNat)
 case atStart=>exact ⟨0,by omega,rfl,rfl,Kp.refl _⟩
 case round=>
  obtain ⟨k,hk,rfl,rfl,hkp⟩:=hrel;by_cases hlt:k<5
  ·have e3:=hkp.cell (P3.out k hlt)
   have e4:=hkp.cell (P4.out k hlt);obtain ⟨af9,e5,r5⟩:=HE4.out k hlt;obtain ⟨x,e6,r6⟩:=HF4.out k hlt;have e5:=hkp.cell e5;have e6:=hkp.cell e6;have R5:=Lib.hid (r5.kp hkp);have R6:=Lib.hid (r6.kp hkp);obtain ⟨n5,m5,z5,rfl⟩:=r5.sl;obtain ⟨n6,m6,z6,rfl⟩:=r6.sl;have hq:(k:Int)<5:=by omega
   have hq0:¬(k:Int)<0:=by omega
   have HN:Hid (adH E F (k+1)=(decide (E.get k=F.get k) && adH E F k)):=rfl;generalize adH E F k=B at *;generalize E.get k=X at *;generalize F.get k=Y at *;obtain ⟨D,hD⟩:∃ D,decide (X=Y)=D:=⟨_,rfl⟩;rw[hD] at HN;have HM:=Lib.hid (fun W (hW:Kp wr W)=>afl (.slice n5 m5 z5) (.slice n6 m6 z6) X Y W (R5.out.kp hW) (R6.out.kp hW));rw[hD] at HM;clear r5 r6 hD R5 R6 HE4 HF4 P3 P4;cases D
   ·go_wp2_with fail
    refine wp_region_held_drew (S:=fun W=>W.cell? ⟨g4,k,none⟩=some (.pointer (some ⟨w.heap.size,k,none⟩))∧W.cell? ⟨g3,k,none⟩=some (.pointer (some ⟨w.heap.size+1,k,none⟩))∧W.cell? ⟨w.heap.size,k,none⟩=some (.slice n5 m5 z5)∧W.cell? ⟨w.heap.size+1,k,none⟩=some (.slice n6 m6 z6)) (by kernel_rfl) (by first | exact ⟨e4,e3,e5,e6⟩ | (with_reducible exact S7.out)) (fun hHeld=>?_);refine wpAnyH_take (i:=0) (oi:=⟨some 17,_,_,_,_,_⟩) (v:=?_) rfl (by kernel_rfl) (by kernel_rfl) (by kernel_rfl) (fun _ _ _ h=>h) (Or.inl ⟨by kernel_rfl,?_⟩) (by assumption) ?_;rotate_left;focus ((intro w hSw;(try dsimp only at hSw);go_simp);(try with_reducible rfl);done)
    simp only[Act.put,List.setIfInBounds_toArray,List.set_cons_zero,List.set_cons_succ];refine wpAnyH_take (i:=1) (oi:=⟨some 18,_,_,_,_,_⟩) (v:=?_) rfl (by kernel_rfl) (by kernel_rfl) (by kernel_rfl) (fun _ _ _ h=>h) (Or.inl ⟨by kernel_rfl,?_⟩) (by assumption) ?_;rotate_left;focus ((intro w hSw;(try dsimp only at hSw);go_simp);(try with_reducible rfl);done)
    simp only[Act.put,List.setIfInBounds_toArray,List.set_cons_zero,List.set_cons_succ];refine wpAnyH_take (i:=2) (oi:=⟨some 19,_,_,_,_,_⟩) (v:=?_) rfl (by kernel_rfl) (by kernel_rfl) (by kernel_rfl) (fun _ _ _ h=>h) (Or.inl ⟨by kernel_rfl,?_⟩) (by assumption) ?_;rotate_left;focus ((intro w hSw;(try dsimp only at hSw);go_simp);(try with_reducible rfl);done)
    simp only[Act.put,List.setIfInBounds_toArray,List.set_cons_zero,List.set_cons_succ];refine wpAnyH_take (i:=3) (oi:=⟨some 20,_,_,_,_,_⟩) (v:=?_) rfl (by kernel_rfl) (by kernel_rfl) (by kernel_rfl) (fun _ _ _ h=>h) (Or.inl ⟨by kernel_rfl,?_⟩) (by assumption) ?_;rotate_left;focus ((intro w hSw;(try dsimp only at hSw);go_simp);(try with_reducible rfl);done)
    simp only[Act.put,List.setIfInBounds_toArray,List.set_cons_zero,List.set_cons_succ];refine wpAnyH_take (i:=4) (oi:=⟨some 21,_,_,_,_,_⟩) (v:=?_) rfl (by kernel_rfl) (by kernel_rfl) (by kernel_rfl) (fun _ _ _ h=>h) (Or.inl ⟨by kernel_rfl,?_⟩) (by assumption) ?_;rotate_left;focus ((intro w hSw;(try dsimp only at hSw);go_simp);(try with_reducible rfl);done)
    simp only[Act.put,List.setIfInBounds_toArray,List.set_cons_zero,List.set_cons_succ];refine wpAnyH_take (i:=5) (oi:=⟨some 22,_,_,_,_,_⟩) (v:=?_) rfl (by kernel_rfl) (by kernel_rfl) (by kernel_rfl) (fun _ _ _ h=>h) (Or.inl ⟨by kernel_rfl,?_⟩) (by assumption) ?_;rotate_left;focus ((intro w hSw;(try dsimp only at hSw);go_simp);(try with_reducible rfl);done)
    simp only[Act.put,List.setIfInBounds_toArray,List.set_cons_zero,List.set_cons_succ];refine wpAnyH_take (i:=6) (oi:=⟨some 23,_,_,_,_,_⟩) (v:=?_) rfl (by kernel_rfl) (by kernel_rfl) (by kernel_rfl) (fun _ _ _ h=>h) (Or.inl ⟨by kernel_rfl,?_⟩) (by assumption) ?_;rotate_left;focus ((intro w hSw;(try dsimp only at hSw);go_simp);(try with_reducible rfl);done)
    simp only[Act.put,List.setIfInBounds_toArray,List.set_cons_zero,List.set_cons_succ];refine wpAnyH_take (i:=7) (oi:=⟨some 24,_,_,_,_,_⟩) (v:=?_) rfl (by kernel_rfl) (by kernel_rfl) (by kernel_rfl) (fun _ _ _ h=>h) (Or.inl ⟨by kernel_rfl,?_⟩) (by assumption) ?_;rotate_left;focus ((intro w hSw;(try dsimp only at hSw);go_simp);(try with_reducible rfl);done)
    simp only[Act.put,List.setIfInBounds_toArray,List.set_cons_zero,List.set_cons_succ];refine wpAnyH_take (i:=8) (oi:=⟨some 25,_,_,_,_,_⟩) (v:=?_) rfl (by kernel_rfl) (by kernel_rfl) (by kernel_rfl) (fun _ _ _ h=>h) (Or.inl ⟨by kernel_rfl,?_⟩) (by assumption) ?_;rotate_left;focus ((intro w hSw;(try dsimp only at hSw);go_simp);(try with_reducible rfl);done)
    simp only[Act.put,List.setIfInBounds_toArray,List.set_cons_zero,List.set_cons_succ];refine wpAnyH_ready (rs:=[9]) (by kernel_rfl) (by simp) ?_;refine AllReadyH.cons (o:=⟨some 26,_,_,_,_,_⟩) rfl (fun K hK=>?_) AllReadyH.nil;go_simp
    (go_at_call 53;refine (HM.out _ (by first | exact (Kp.refl _).drew | exact Kp.refl _)).mono ?_;rintro _ w7 ⟨rfl,k7⟩;have k7':Kp wr w7:=(Kp.refl _).drew.trans k7;have S7:=Lib.hid (And.intro (k7'.cell e4) (And.intro (k7'.cell e3) (And.intro (k7'.cell e5) (k7'.cell e6)))))
    refine hK.out _ _ (by first | exact ⟨e4,e3,e5,e6⟩ | (with_reducible exact S7.out)) (fun hHeld=>?_);clear hK K;try simp only[Act.put,List.setIfInBounds_toArray,List.set_cons_zero,List.set_cons_succ]
    refine wpAnyH_take (i:=10) (oi:=⟨some 27,_,_,_,_,_⟩) (v:=?_) rfl (by kernel_rfl) (by kernel_rfl) (by kernel_rfl) (fun _ _ _ h=>h) (Or.inl ⟨by kernel_rfl,?_⟩) (by assumption) ?_;rotate_left;focus ((intro w hSw;(try dsimp only at hSw);go_simp);(try with_reducible rfl);done)
    simp only[Act.put,List.setIfInBounds_toArray,List.set_cons_zero,List.set_cons_succ];refine wpAnyH_take (i:=11) (oi:=⟨some 28,_,_,_,_,_⟩) (v:=undef) rfl (by kernel_rfl) (by kernel_rfl) (by kernel_rfl) (fun _ _ _ h=>h) (Or.inr ⟨by kernel_rfl,rfl⟩) (by assumption) ?_;simp only[Act.put,List.setIfInBounds_toArray,List.set_cons_zero,List.set_cons_succ];refine wpAnyH_take (i:=12) (oi:=⟨some 29,_,_,_,_,_⟩) (v:=?_) rfl (by kernel_rfl) (by kernel_rfl) (by kernel_rfl) (fun _ _ _ h=>h) (Or.inl ⟨by kernel_rfl,?_⟩) (by assumption) ?_;rotate_left;focus ((intro w hSw;(try dsimp only at hSw);go_simp);(try with_reducible rfl);done)
    simp only[Act.put,List.setIfInBounds_toArray,List.set_cons_zero,List.set_cons_succ];refine wpAnyH_take (i:=13) (oi:=⟨some 5,_,_,_,_,_⟩) (v:=?_) rfl (by kernel_rfl) (by kernel_rfl) (by kernel_rfl) (fun _ _ _ h=>h) (Or.inl ⟨by kernel_rfl,?_⟩) (by assumption) ?_;rotate_left;focus ((intro w hSw;(try dsimp only at hSw);go_simp);(try with_reducible rfl);done)
    simp only[Act.put,List.setIfInBounds_toArray,List.set_cons_zero,List.set_cons_succ];refine wpAnyH_done (by kernel_rfl) ?_ _;go_wp2_with fail;go_roundw
    case rel=>exact ⟨k+1,by omega,by go_num,by rw[HN.out];rfl,hkp.trans k7'⟩
    case measure=>simp[intOf];omega
   ·go_wp2_with fail
    go_region_held3 (fun W=>W.cell? ⟨g4,k,none⟩=some (.pointer (some ⟨w.heap.size,k,none⟩))∧W.cell? ⟨g3,k,none⟩=some (.pointer (some ⟨w.heap.size+1,k,none⟩))∧W.cell? ⟨w.heap.size,k,none⟩=some (.slice n5 m5 z5)∧W.cell? ⟨w.heap.size+1,k,none⟩=some (.slice n6 m6 z6))
     (first | exact ⟨e4,e3,e5,e6⟩ | (with_reducible exact S7.out))
     (first | (go_at_call 53;refine (HM.out _ (by first | exact (Kp.refl _).drew | exact Kp.refl _)).mono ?_;rintro _ w7 ⟨rfl,k7⟩;have k7':Kp wr w7:=(Kp.refl _).drew.trans k7;have S7:=Lib.hid (And.intro (k7'.cell e4) (And.intro (k7'.cell e3) (And.intro (k7'.cell e5) (k7'.cell e6))))))
    go_wp2_with fail;go_roundw
    case rel=>exact ⟨k+1,by omega,by go_num,by rw[HN.out];rfl,hkp.trans k7'⟩
    case measure=>simp[intOf];omega
  ·obtain rfl:k=5:=by omega
   rw[HS.out];go_wp2_with fail;go_ret;exact ⟨rfl,K4.out.trans hkp⟩
end Go.Proofs.Ytbhkdlpdolioaaa
