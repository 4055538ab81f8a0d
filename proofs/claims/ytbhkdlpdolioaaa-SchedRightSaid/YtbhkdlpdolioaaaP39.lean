import Derived.Test.YtbhkdlpdolioaaaP2
import Derived.Test.YtbhkdlpdolioaaaP35
import Derived.Test.YtbhkdlpdolioaaaP37
import Derived.Test.YtbhkdlpdolioaaaP38
import Derived.Deep.RegionHeld3
set_option linter.unusedVariables false
set_option linter.unusedSimpArgs false
set_option maxHeartbeats 8000000
set_option maxRecDepth 100000
namespace Go.Proofs.Ytbhkdlpdolioaaa
open Go.RowKit
def Eps.get (e:Eps):Nat→List UInt8
 | 0=>e.i
 | 1=>e.s
 | 2=>e.x
 | 3=>e.c
 | _=>e.r
def EV (w:World)(v0 v1 v2 v3 v4:Value)(e:Eps):Prop:=Rd w v0 e.i∧Rd w v1 e.s∧Rd w v2 e.x∧Rd w v3 e.c∧Rd w v4 e.r
theorem EV.kp {w w':World}{v0 v1 v2 v3 v4:Value}{e:Eps}(h:EV w v0 v1 v2 v3 v4 e)(k:Kp w w'):EV w' v0 v1 v2 v3 v4 e:=⟨h.1.kp k,h.2.1.kp k,h.2.2.1.kp k,h.2.2.2.1.kp k,h.2.2.2.2.kp k⟩
theorem lt5 {k:Nat}(h:k<5):k=0∨k=1∨k=2∨k=3∨k=4:=by omega
theorem Bx.ev {w:World}{b:Nat}{T:TypeId}{v0 v1 v2 v3 v4:Value}{e:Eps}(hb:Bx w b T #[v0,v1,v2,v3,v4])(h:EV w v0 v1 v2 v3 v4 e)(k:Nat)(hk:k<5):∃ af9,w.cell? ⟨b,k,none⟩=some af9∧Rd w af9 (e.get k):=by
 obtain ⟨h0,h1,h2,h3,h4⟩:=h;rw[hb.cell k];rcases lt5 hk with rfl | rfl | rfl | rfl | rfl
 ·exact ⟨_,rfl,h0⟩
 ·exact ⟨_,rfl,h1⟩
 ·exact ⟨_,rfl,h2⟩
 ·exact ⟨_,rfl,h3⟩
 ·exact ⟨_,rfl,h4⟩
def ptrs (b:Nat):Array Value:=#[.pointer (some ⟨b,0,none⟩),.pointer (some ⟨b,1,none⟩),.pointer (some ⟨b,2,none⟩),.pointer (some ⟨b,3,none⟩),.pointer (some ⟨b,4,none⟩)]
theorem Bx.ptr {w:World}{g b:Nat}{T:TypeId}(hb:Bx w g T (ptrs b))(k:Nat)(hk:k<5):w.cell? ⟨g,k,none⟩=some (.pointer (some ⟨b,k,none⟩)):=by
 rw[hb.cell k];rcases lt5 hk with rfl | rfl | rfl | rfl | rfl <;> rfl
theorem abf (b:Nat)(w:World):
  Calls Try.prog 45 #[.pointer (some ⟨b,0,none⟩)] w fun e w'=>∃ g,e=.returned (.slice (some ⟨g,0,none⟩) 5 5)∧Bx w' g 85 (ptrs b)∧w.heap.size≤g∧Kp w w':=by
 go_enter Try.func45,Try.ntmps45;go_wp2_with fail;go_region
 all_goals (go_wp2_with fail;go_ret;exact ⟨_,rfl,Bx.new _ _ _,Nat.le_refl _,(Kp.refl _).drew.alloc _⟩)
theorem abv (v0 v1 v2 v3 v4:Value)(E:Eps)(w:World)(h:EV w v0 v1 v2 v3 v4 E):
  Calls Try.prog 49 #[.agg #[v0,v1,v2,v3,v4]] w fun e w'=>e=.returned (.bool (decide E.ok))∧Kp w w':=by
 have HOK:Hid (E.ok↔∀ j,j<5→(E.get j).length=32):=⟨fun h j hj=>by obtain ⟨a,b,c,d,f⟩:=h;rcases lt5 hj with rfl | rfl | rfl | rfl | rfl <;> assumption,fun h=>⟨h 0 (by omega),h 1 (by omega),h 2 (by omega),h 3 (by omega),h 4 (by omega)⟩⟩;obtain ⟨a0,c0,rfl,_,_⟩:=h.1.shape;obtain ⟨a1,c1,rfl,_,_⟩:=h.2.1.shape;obtain ⟨a2,c2,rfl,_,_⟩:=h.2.2.1.shape;obtain ⟨a3,c3,rfl,_,_⟩:=h.2.2.2.1.shape;obtain ⟨a4,c4,rfl,_,_⟩:=h.2.2.2.2.shape;have HB:=Lib.hid (Bx.new w 36 #[.slice a0 E.i.length c0,.slice a1 E.s.length c1,.slice a2 E.x.length c2,.slice a3 E.c.length c3,.slice a4 E.r.length c4]);have K1:=Lib.hid ((Kp.refl w).alloc (.cells #[.slice a0 E.i.length c0,.slice a1 E.s.length c1,.slice a2 E.x.length c2,.slice a3 E.c.length c3,.slice a4 E.r.length c4] 36));have HE:=Lib.hid (HB.out.ev (h.kp K1.out));clear h;go_enter Try.func49,Try.ntmps49;go_wp2_with fail;refine (abf _ _).mono ?_;rintro _ w2 ⟨g,rfl,b2,_,k2⟩;have HP:=Lib.hid b2.ptr;have K2:=Lib.hid (K1.out.trans k2);have HE2:Hid (∀ k,k<5→∃ af9,w2.cell? ⟨w.heap.size,k,none⟩=some af9∧Rd w2 af9 (E.get k)):=fun k hk=>by obtain ⟨af9,h1,h2⟩:=HE.out k hk;exact ⟨af9,k2.cell h1,h2.kp k2⟩
 clear b2 k2 HE HB K1;go_wp2_with fail;go_loopw[7] (fun i wr=>∃ k:Nat,k≤5∧i=.int .i64 k∧Hid (∀ j,j<k→(E.get j).length=32)∧Kp w2 wr) (fun i _=>5 - (intOf i).toNat)
 case atStart=>exact ⟨0,by omega,rfl,fun j hj=>by omega,Kp.refl _⟩
 case round=>
  obtain ⟨k,hk,rfl,hj,hkp⟩:=hrel;by_cases hlt:k<5
  ·have q1:=hkp.cell (HP.out k hlt)
   obtain ⟨af9,q2,q3⟩:=HE2.out k hlt;have q2:=hkp.cell q2;have q3:=q3.kp hkp;obtain ⟨au,cu,rfl,p1,p2⟩:=q3.shape;have HR:=Lib.hid q3;have hq:(k:Int)<5:=by omega
   have HW:Hid (∀ W v,RL W v [E.get k]→Calls Try.prog 36 #[v] W fun e w'=>e=.returned (.bool (abj [E.get k]))∧w'=W):=fun W v h=>aaO v _ W h
   by_cases h3:(E.get k).length=32
   ·have HJ:Hid (∀ j,j<k+1→(E.get j).length=32):=fun j hq=>by
     rcases Nat.lt_or_ge j k with h4 | h4
     ·exact hj.out j h4
     ·obtain rfl:j=k:=by omega
      exact h3
    have e1:abj [E.get k]=true:=by simp[abj,h3]
    rw[e1] at HW;generalize E.get k=X at *;clear hj h3 q3 e1;go_wp2_with fail;refine (HW.out _ _ (RL.cons (us:=[]) (ls:=[]) (abr _ _ _) (HR.out.kp ((Kp.refl _).alloc _)) rfl (fun i hi=>by simp at hi))).mono ?_;rintro _ _ ⟨rfl,rfl⟩;go_wp2_with fail;go_roundw
    case rel=>exact ⟨k+1,by omega,by go_num,HJ,hkp.alloc _⟩
    case measure=>simp[intOf];omega
   ·have hb:decide E.ok=false:=decide_eq_false fun hh=>h3 (HOK.out.1 hh k hlt)
    have e1:abj [E.get k]=false:=by simp[abj,h3]
    rw[e1] at HW;generalize E.get k=X at *;have HBB:=Lib.hid hb;clear hj h3 q3 e1 hb;go_wp2_with fail;refine (HW.out _ _ (RL.cons (us:=[]) (ls:=[]) (abr _ _ _) (HR.out.kp ((Kp.refl _).alloc _)) rfl (fun i hi=>by simp at hi))).mono ?_;rintro _ _ ⟨rfl,rfl⟩;go_wp2_with fail;go_ret;exact ⟨by rw[HBB.out];rfl,(K2.out.trans hkp).alloc _⟩
  ·obtain rfl:k=5:=by omega
   have hb:decide E.ok=true:=decide_eq_true (HOK.out.2 hj.out);have HBB:=Lib.hid hb;clear hb;go_wp2_with fail;go_ret;exact ⟨by rw[HBB.out];rfl,K2.out.trans hkp⟩
def labS:Nat→ByteArray
 | 0=>aec
 | 1=>aed
 | 2=>abX
 | 3=>abs
 | _=>abY
theorem aeQ (k:Nat):(labS k).size≤300:=by
 rcases k with _ | _ | _ | _ | k
 ·exact (by decide:aec.size≤300)
 ·exact (by decide:aed.size≤300)
 ·exact (by decide:abX.size≤300)
 ·exact (by decide:abs.size≤300)
 ·exact (by decide:abY.size≤300)
def labs:Array Value:=#[.string aec,.string aed,.string abX,.string abs,.string abY]
theorem Bx.lab {w:World}{g:Nat}{T:TypeId}(hb:Bx w g T labs)(k:Nat)(hk:k<5):w.cell? ⟨g,k,none⟩=some (.string (labS k)):=by
 rw[hb.cell k];rcases lt5 hk with rfl | rfl | rfl | rfl | rfl <;> rfl
def acL (w:World)(b:Nat)(K:List UInt8)(k:Nat)(cs:Array Value):Prop:=
 Bx w b 36 cs∧cs.size=5∧∀ j,j<k→∃ v,cs[j]?=some v∧Rd w v (oneS K (labS j) [])∧aaC (b+1) v
theorem Rd.setAway {w:World}{v af9:Value}{l:List UInt8}{b j:Nat}(h:Rd w v l)(hn:aaC (b+1) v):Rd (w.setCell ⟨b,j,none⟩ af9) v l:=
 h.held (R:=fun k=>k≠b) (Held.of_step ((Step.refl (fun k=>k=b) w).setCell _ _ (.inr rfl)) fun k hk=>hk) fun c o n m e=>by
  have:=hn c (by rw[e];rfl);omega
theorem afm (b gp gl:Nat)(vk:Value)(K:List UInt8)(w:World)(hp:Bx w gp 85 (ptrs b))(hl:Bx w gl 9 labs)(hk:Rd w vk K)(hkl:K.length≤2000)
  (hb:∃ cs,Bx w b 36 cs∧cs.size=5) (hne:gp≠b∧gl≠b) (hv:∀ c o n m,vk=.slice (some ⟨c,o,none⟩) n m→c≠b):
  Calls Try.prog 44 #[.slice (some ⟨gp,0,none⟩) 5 5,vk,.slice (some ⟨gl,0,none⟩) 5 5] w fun e w'=>e=.returned (.tuple #[])∧(∃ cs,acL w' b K 5 cs)∧Step (fun k=>k=b) w w':=by
 obtain ⟨ak,nk,ck,rfl⟩:=hk.sl;obtain ⟨cs0,hb0,hs0⟩:=hb;have HP:=Lib.hid hp.ptr;have HL:=Lib.hid hl.lab;have HK:=Lib.hid hk;have HV:=Lib.hid hv;have HLT:Hid (b<w.heap.size):=(Array.getElem?_eq_some_iff.1 hb0).1;have HNE:=Lib.hid hne;have H0:Hid (acL w b K 0 cs0):=⟨hb0,hs0,fun j hj=>by omega⟩;clear hp hl hk hv hne hb0 hs0;go_enter Try.func44,Try.ntmps44;go_wp2_with fail;go_loopw[10] (fun i wr=>∃ k:Nat,k≤5∧i=.int .i64 k∧(∃ cs,acL wr b K k cs)∧Step (fun k=>k=b) w wr) (fun i _=>5 - (intOf i).toNat)
 case atStart=>exact ⟨0,by omega,rfl,⟨_,H0.out⟩,Step.refl _ _⟩
 case round=>
  obtain ⟨k,hk,rfl,⟨cs,hf⟩,hst⟩:=hrel;by_cases hlt:k<5
  ·have e1:=hst.cell (HP.out k hlt) HNE.out.1
   have e2:=hst.cell (HL.out k hlt) HNE.out.2;have hr:Rd wr (.slice ak nk ck) K:=HK.out.step hst HV.out;have hq:(k:Int)<5:=by omega
   have hq0:¬(k:Int)<0:=by omega
   have HD:=Lib.hid (fun W (hW:Kp wr W)=>acJ (.slice ak nk ck) (labS k) K W (hr.kp hW) (aeQ k) hkl);have HN:Hid (∀ W v,Kp wr W→Ow 5 W wr.heap.size v (oneS K (labS k) [])→(W.cell? ⟨b,k,none⟩).isSome∧W.frozen? ⟨b,k,none⟩=false∧(∃ cs,acL (W.setCell ⟨b,k,none⟩ v) b K (k+1) cs)∧Step (fun k=>k=b) w (W.setCell ⟨b,k,none⟩ v)):=fun W v kW oW=>by
    obtain ⟨f1,f2,f3⟩:=hf;have f1':=f1.kp kW;have hnv:aaC (b+1) v:=fun g hg=>by have:=(World.ownsRow.lt oW g hg).1;have:=hst.size;have:=HLT.out;omega
    refine ⟨by rw[f1'.cell k,Array.getElem?_eq_getElem (by omega)];rfl,f1'.frozen k,⟨cs.setIfInBounds k v,f1'.set k v,by rw[Array.size_setIfInBounds];exact f2,fun j hj=>?_⟩,(hst.trans (Step.of_kp kW)).setCell _ _ (.inr rfl)⟩;rw[Array.getElem?_setIfInBounds];by_cases hjk:k=j
    ·subst hjk
     rw[if_pos rfl,if_pos (by omega)];exact ⟨_,rfl,oW.rd.setAway hnv,hnv⟩
    ·rw[if_neg hjk]
     obtain ⟨af9,h1,h2,h3⟩:=f3 j (by omega);exact ⟨af9,h1,(h2.kp kW).setAway h3,h3⟩
   generalize labS k=LS at *;clear hr hf;go_wp2_with fail;go_region_with (first
    | (go_at_call 52;refine (HD.out _ (by first | exact Kp.refl _ | exact (Kp.refl _).drew)).mono ?_;rintro _ w7 ⟨⟨v7,rfl,o7⟩,k7⟩;have k7':Kp wr w7:=(Kp.refl _).drew.trans k7;obtain ⟨a7,n7,c7,rfl⟩:=o7.rd.sl;obtain ⟨x1,x2,x3,x4⟩:=HN.out w7 _ k7' o7;obtain ⟨y7,x1⟩:=Option.isSome_iff_exists.1 x1;have e1':=k7'.cell e1;have X3:=Lib.hid x3;have X4:=Lib.hid x4;clear x3 x4))
   all_goals (
    go_wp2_with fail;go_roundw
    case rel=>exact ⟨k+1,by omega,by go_num,X3.out,X4.out⟩
    case measure=>simp[intOf];omega)
  ·obtain rfl:k=5:=by omega
   go_wp2_with fail;go_end0
   exact ⟨rfl,⟨_,hf⟩,hst⟩
end Go.Proofs.Ytbhkdlpdolioaaa
