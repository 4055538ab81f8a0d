import Derived.Test.YthmhklmkgkfcpaaGreatDoorU2
import Derived.Test.YthmhklmkgkfcpaaGreatDoorU5
import Derived.StillTailTactics
import Derived.Outline
import Derived.WalkSpells
import Derived.Deep.RegionHeld3
set_option linter.unusedVariables false
set_option linter.unusedSimpArgs false
set_option maxHeartbeats 8000000
set_option maxRecDepth 100000
namespace Go.Proofs.YthmhklmkgkfcpaaGreatDoor
open Go.RowKit
attribute [local go_sem] agr aoI anh aoJ u_or ani ajd
def aaG (n:Nat):List UInt32:=List.replicate n 0
theorem aaS (n:Nat):(aaG n).length=n:=by simp[aaG]
theorem aaK (l:List UInt8):∀ t,(acx l t).length=t
 | 0=>rfl
 | t+1=>by simp[acx,aaK l t]
def upto (l:List UInt8)(t:Nat):List UInt32:=acx l t++aaG (64 - t)
theorem acA (l:List UInt8)(t:Nat)(h:t≤64):(upto l t).length=64:=by simp[upto,aaK,aaS];omega
theorem af7 (l:List UInt8)(t:Nat)(h:t<64):(upto l t).set t (ab6 l (acx l t) t)=upto l (t+1):=by
 unfold upto aaG;rw[List.set_append_right _ _ (by rw[aaK];omega),aaK,Nat.sub_self,show 64 - t=(64 - (t+1))+1 by omega,List.replicate_succ];simp[acx]
theorem acL (l:List UInt8)(t i:Nat)(h:i<t):(upto l t).getD i 0=(acx l t).getD i 0:=by
 unfold upto;rw[List.getD_eq_getElem?_getD,List.getElem?_append_left (by rw[aaK];exact h),List.getD_eq_getElem?_getD]
theorem ali (l:List UInt8):upto l 64=acx l 64:=by simp[upto,aaG]
theorem ajj (n:Nat):aal (aaG n)=Array.replicate n (.int .u32 0):=by
 apply Array.ext';simp[aal,aaG,anj,arO]
theorem aa6 (n:Int)(h₀:0≤n)(h₁:n<2 ^ 32):IntKind.u32.wrap n=n:=by rw[IntKind.wrap_u32];omega
theorem aoS (a b c d:UInt8):
  (IntKind.u32.wrap (ub a)=ub a∧IntKind.u32.wrap (ub b)=ub b∧IntKind.u32.wrap (ub c)=ub c∧IntKind.u32.wrap (ub d)=ub d) ∧
  (IntKind.u32.wrap (ub a*16777216)=ub a*16777216∧IntKind.u32.wrap (ub b*65536)=ub b*65536∧IntKind.u32.wrap (ub c*256)=ub c*256) ∧
  (bits .or .u32 (ub a*16777216) (ub b*65536)=ub a*16777216+ub b*65536 ∧
   bits .or .u32 (ub a*16777216+ub b*65536) (ub c*256)=ub a*16777216+ub b*65536+ub c*256 ∧
   bits .or .u32 (ub a*16777216+ub b*65536+ub c*256) (ub d)=arO (adQ a b c d)):=by
 have hs:=ahQ a b c d;have a0:=acd a;have b0:=acd b;have c0:=acd c;have d0:=acd d;have a1:=ajg a;have b1:=ajg b;have c1:=ajg c;have d1:=ajg d;refine ⟨⟨aa6 _ (by omega) (by omega),aa6 _ (by omega) (by omega),aa6 _ (by omega) (by omega),aa6 _ (by omega) (by omega)⟩,
  ⟨aa6 _ (by omega) (by omega),aa6 _ (by omega) (by omega),aa6 _ (by omega) (by omega)⟩,?_,?_,?_⟩
 ·exact bits_join .u32 32 (by decide) aa6 24 _ _ (by omega) (by omega) (by omega) (by omega) (by omega) (by omega)
 ·exact bits_join .u32 32 (by decide) aa6 16 _ _ (by omega) (by omega) (by omega) (by omega) (by omega) (by omega)
 ·rw[bits_join .u32 32 (by decide) aa6 8 _ _ (by omega) (by omega) (by omega) (by omega) (by omega) (by omega),hs]
def got (W:World)(p:Addr):Value:=(W.cell? p).getD undef
def So (T:TypeId)(w:World)(g:Nat)(L:List UInt32)(t:Nat)(W:World):Prop:=∃ x,Arr T W (g+1) (L.set t x)∧Arr T W g (aaG 64)∧Below g w W
theorem So.start {T:TypeId}{w W:World}{g:Nat}{L:List UInt32}{t:Nat}(ht:t<L.length)(h:Arr T W (g+1) L)(h0:Arr T W g (aaG 64))(hk:Below g w W):So T w g L t W:=
 ⟨L[t],by rw[List.set_getElem_self];exact h,h0,hk⟩
theorem So.drewN {T:TypeId}{w W:World}{g:Nat}{L:List UInt32}{t:Nat}(h:So T w g L t W)(n:Nat):So T w g L t (W.drewN n):=by
 obtain ⟨x,h1,h2,h3⟩:=h;exact ⟨x,h1.drewN n,h2.drewN n,h3.trans ((Kp.refl W).drewN n |>.mono (by have:=h2.lt;omega))⟩
theorem So.drew {T:TypeId}{w W:World}{g:Nat}{L:List UInt32}{t:Nat}(h:So T w g L t W):So T w g L t W.drew:=h.drewN 1
theorem So.set {T:TypeId}{w W:World}{g:Nat}{L:List UInt32}{t:Nat}(h:So T w g L t W)(y:UInt32):So T w g L t (W.setCell ⟨g+1,t,none⟩ (.int .u32 (arO y))):=by
 obtain ⟨x,h1,h2,h3⟩:=h;refine ⟨y,?_,h2.other _ _ (by simp),h3.setCell (p:=⟨g+1,t,none⟩) (by simp) _⟩;have:=h1.set t y _ rfl;rwa [List.set_set] at this
theorem So.facts {T:TypeId}{w W:World}{g:Nat}{L:List UInt32}{t:Nat}(ht:t<L.length)(h16:16≤t)(x2 x7 x15 x16:UInt32)(e2:L.getD (t - 2) 0=x2)(e7:L.getD (t - 7) 0=x7)(e15:L.getD (t - 15) 0=x15)(e16:L.getD (t - 16) 0=x16)
  (h:So T w g L t W):W.cell? ⟨g+1,t - 2,none⟩=some (.int .u32 (arO x2))∧W.cell? ⟨g+1,t - 7,none⟩=some (.int .u32 (arO x7))∧W.cell? ⟨g+1,t - 15,none⟩=some (.int .u32 (arO x15))∧W.cell? ⟨g+1,t - 16,none⟩=some (.int .u32 (arO x16)) ∧
   W.cell? ⟨g+1,t,none⟩=some (got W ⟨g+1,t,none⟩)∧W.frozen? ⟨g+1,t,none⟩=false∧So T w g L t W:=by
 have h':=h;obtain ⟨x,h1,h2,h3⟩:=h';have hl:(L.set t x).length=L.length:=by simp
 have k:∀ i,i<t→W.cell? ⟨g+1,i,none⟩=some (.int .u32 (arO (L.getD i 0))):=fun i hi=>by
  have:=h1.cell i (by rw[hl];omega);rw[this,List.getD_eq_getElem?_getD,List.getElem?_set_ne (by omega),List.getD_eq_getElem?_getD]
 subst e2 e7 e15 e16;refine ⟨k _ (by omega),k _ (by omega),k _ (by omega),k _ (by omega),?_,h1.frozen t (by omega),h⟩;have:=h1.cell t (by omega);unfold got;rw[this];rfl
theorem ajk (v:Value)(l:List UInt8)(w:World)(h:Rd w v l)(hl:l.length=64):
  Calls Tryz.prog 267 #[v] w fun e w'=>e=.returned (.agg (aal (acx l 64)))∧Kp w w':=by
 obtain ⟨a,c,rfl,h1,h2⟩:=h.shape;rw[hl] at h h1 ⊢;unfold maxLen at h2;obtain ⟨b,off,rfl,hb,hc⟩:=h.row (by omega);go_enter Tryz.func267,Tryz.ntmps267;go_wp2_with fail;go_loopw[7] (fun i wr=>∃ t:Nat,t≤16∧i=.int .i64 t∧Arr 264 wr w.heap.size (aaG 64)∧Arr 264 wr (w.heap.size+1) (upto l t)∧Kp w wr) (fun i _=>16 - (intOf i).toNat)
 case atStart=>
  refine ⟨0,by omega,rfl,?_,?_,((Kp.refl w).alloc _).alloc _⟩
  ·exact (Arr.new _ _ _ (aaG 64) rfl).alloc _
  ·have:=Arr.new 264 (w.alloc (.cells (aal (aaG 64)) 264)) (aal (aaG 64)) (upto l 0) rfl
   rw[World.size_alloc] at this;exact this
 case round=>
  obtain ⟨t,ht,rfl,hA0,hA,hk⟩:=hrel;by_cases hlt:t<16
  ·have c0:=hk.cell (hc (4*t) (by omega))
   have c1:=hk.cell (hc (4*t+1) (by omega));have c2:=hk.cell (hc (4*t+2) (by omega));have c3:=hk.cell (hc (4*t+3) (by omega));have hn:ab6 l (acx l t) t=adQ (l.getD (4*t) 0) (l.getD (4*t+1) 0) (l.getD (4*t+2) 0) (l.getD (4*t+3) 0):=by unfold ab6;rw[if_pos hlt]
   have hset:=(af7 l t (by omega));rw[hn] at hset;have hA':=hA.set t (adQ (l.getD (4*t) 0) (l.getD (4*t+1) 0) (l.getD (4*t+2) 0) (l.getD (4*t+3) 0)) _ rfl;rw[hset] at hA';have hA0':=hA0.other ⟨w.heap.size+1,t,none⟩ (.int .u32 (arO (adQ (l.getD (4*t) 0) (l.getD (4*t+1) 0) (l.getD (4*t+2) 0) (l.getD (4*t+3) 0)))) (by simp);have hk':=Below.setCell hk (p:=⟨w.heap.size+1,t,none⟩) (by simp) (.int .u32 (arO (adQ (l.getD (4*t) 0) (l.getD (4*t+1) 0) (l.getD (4*t+2) 0) (l.getD (4*t+3) 0))));have ca:=hA.cell t (by rw[acA l t (by omega)];omega);have cf:=hA.frozen t (by rw[acA l t (by omega)];omega);generalize l.getD (4*t) 0=x0 at *;generalize l.getD (4*t+1) 0=x1 at *;generalize l.getD (4*t+2) 0=x2 at *;generalize l.getD (4*t+3) 0=x3 at *;obtain ⟨⟨v0,v1,v2,v3⟩,⟨m0,m1,m2⟩,o1,o2,o3⟩:=aoS x0 x1 x2 x3;simp only[← Nat.add_assoc] at c1 c2 c3;have H:=Lib.hid hset;have e4:4*t+4 - 4*t=4:=by omega
   clear hc hset hn;go_wp2_with fail;rw[e4];have ht64:(t:Int)<64:=by omega
   go_still_tail 24,(by kernel_rfl)
   go_wp2_with fail;go_roundw
   case rel=>exact ⟨t+1,by omega,by go_num,hA0'.drew,hA'.drew,hk'.drew⟩
   case measure=>simp[intOf];omega
  ·obtain rfl:t=16:=by omega
   clear hc hlt ht;go_wp2_with fail;go_loopw[6] (fun i wr=>∃ t:Nat,16≤t∧t≤64∧i=.int .i64 t∧Arr 264 wr w.heap.size (aaG 64)∧Arr 264 wr (w.heap.size+1) (upto l t)∧Kp w wr) (fun i _=>64 - (intOf i).toNat)
   case atStart=>exact ⟨16,by omega,by omega,rfl,hA0,hA,hk⟩
   case round=>
    clear hA0 hA hk;obtain ⟨t,h16,ht,rfl,hA0,hA,hk⟩:=hrel;by_cases hlt:t<64
    ·have hlen:=acA l t (by omega)
     have hn:ab6 l (acx l t) t=wadd (wadd (wadd (small 17 19 10 ((upto l t).getD (t - 2) 0)) ((upto l t).getD (t - 7) 0)) (small 7 18 3 ((upto l t).getD (t - 15) 0))) ((upto l t).getD (t - 16) 0):=by
      unfold ab6;rw[if_neg (by omega),acL l t _ (by omega),acL l t _ (by omega),acL l t _ (by omega),acL l t _ (by omega)]
     have hset:=(af7 l t (by omega));rw[hn] at hset;obtain ⟨x2,e2⟩:∃ x,(upto l t).getD (t - 2) 0=x:=⟨_,rfl⟩;obtain ⟨x7,e7⟩:∃ x,(upto l t).getD (t - 7) 0=x:=⟨_,rfl⟩;obtain ⟨x15,e15⟩:∃ x,(upto l t).getD (t - 15) 0=x:=⟨_,rfl⟩;obtain ⟨x16,e16⟩:∃ x,(upto l t).getD (t - 16) 0=x:=⟨_,rfl⟩;rw[e2,e7,e15,e16] at hset;have F:∀ W,So 264 w w.heap.size (upto l t) t W→_:=fun W h=>So.facts (by omega) h16 x2 x7 x15 x16 e2 e7 e15 e16 h
     have HF:=Lib.hid F;have S0:So 264 w w.heap.size (upto l t) t wr:=So.start (by omega) hA hA0 hk;have i2:IntKind.i64.wrap ((t:Int) - 2)=(t:Int) - 2:=IntWalk.i64_in _ (by omega);have i7:IntKind.i64.wrap ((t:Int) - 7)=(t:Int) - 7:=IntWalk.i64_in _ (by omega);have i15:IntKind.i64.wrap ((t:Int) - 15)=(t:Int) - 15:=IntWalk.i64_in _ (by omega);have i16:IntKind.i64.wrap ((t:Int) - 16)=(t:Int) - 16:=IntWalk.i64_in _ (by omega);have n2:((t:Int) - 2).toNat=t - 2:=by omega
     have n7:((t:Int) - 7).toNat=t - 7:=by omega
     have n15:((t:Int) - 15).toNat=t - 15:=by omega
     have n16:((t:Int) - 16).toNat=t - 16:=by omega
     have p2:(2:Int)≤(t:Int):=by omega
     have p7:(7:Int)≤(t:Int):=by omega
     have p15:(15:Int)≤(t:Int):=by omega
     have p16:(16:Int)≤(t:Int):=by omega
     have q2:(t:Int) - 2<64:=by omega
     have q7:(t:Int) - 7<64:=by omega
     have q15:(t:Int) - 15<64:=by omega
     have q16:(t:Int) - 16<64:=by omega
     have q:(t:Int)<64:=by omega
     have H:=Lib.hid hset;clear hset hn hlen F e2 e7 e15 e16;go_wp2_with fail;go_region_held3 (fun W=>W.cell? ⟨w.heap.size+1,t - 2,none⟩=some (.int .u32 (arO x2))∧W.cell? ⟨w.heap.size+1,t - 7,none⟩=some (.int .u32 (arO x7))∧W.cell? ⟨w.heap.size+1,t - 15,none⟩=some (.int .u32 (arO x15))∧W.cell? ⟨w.heap.size+1,t - 16,none⟩=some (.int .u32 (arO x16))∧W.cell? ⟨w.heap.size+1,t,none⟩=some (got W ⟨w.heap.size+1,t,none⟩)∧W.frozen? ⟨w.heap.size+1,t,none⟩=false∧So 264 w w.heap.size (upto l t) t W)
      (first
       | (with_reducible exact HF.out _ (S0.drew))
       | (with_reducible exact HF.out _ (S0.drewN _))
       | (with_reducible exact HF.out _ ((S0.drewN _).set _)))
      (first
       | (go_at_call 272;(with_reducible refine (anm _ _).mono ?_);rintro e w' ⟨rfl,n,rfl⟩)
       | (go_at_call 272;(with_reducible refine (ann _ _).mono ?_);rintro e w' ⟨rfl,n,rfl⟩))
     all_goals
      go_wp2_with fail;go_roundw
      case rel=>
       repeat apply Exists.intro
       refine ⟨?_,rfl⟩;exact ⟨t+1,by omega,by omega,by go_num,(hA0.drewN _).other _ _ (by simp),(hA.drewN _).setTo t _ H.out,Below.setCell (hk.drewN _) (by simp) _⟩
      case measure=>simp[intOf];omega
    ·obtain rfl:t=64:=by omega
     rw[ali] at hA;have hle:=hk.size;go_wp2_with (first
      | (refine aaF Tryz.underlying264 (by kernel_rfl) rfl (.tmp 3) rfl (w.heap.size+1) (acx l 64) rfl hA (aaK l 64) ?_)
      | (refine adF (by kernel_rfl) rfl (.tmp 2) (.tmp 69) rfl w.heap.size (aaG 64) (acx l 64) rfl rfl hA0 (aaS 64) (aaK l 64) ?_))
     refine bodyPost_ret (abZ Tryz.underlying264 (by kernel_rfl) rfl _ _ w.heap.size (acx l 64) rfl (hA0.setRow _) (aaK l 64)) rfl ?_;exact ⟨rfl,below_setRow hk (Nat.le_refl _) _⟩
attribute [local go_sem] agr aoI anh aoJ u_or ani ajd
theorem arh (x:UInt32):bits .xor .u32 IntKind.u32.max (arO x)=arO (wnot x):=by
 have:IntKind.u32.max=arO 0xffffffff:=by decide
 rw[this,anh];rfl
attribute [local go_sem] arh
def mix (A B:List UInt32)(i:Nat):List UInt32:=B.take i++A.drop i
theorem afe (A B:List UInt32)(i:Nat)(h:A.length=B.length)(hi:i≤A.length):(mix A B i).length=A.length:=by simp[mix];omega
theorem ant (A B:List UInt32)(i:Nat)(h:A.length=B.length)(hi:i<A.length)(x:UInt32)(hx:B.getD i 0=x):(mix A B i).set i x=mix A B (i+1):=by
 unfold mix;have hb:i<B.length:=by omega
 have hl:(B.take i).length=i:=by simp;omega
 rw[List.getD_eq_getElem?_getD,List.getElem?_eq_getElem hb] at hx;rw[List.set_append_right _ _ (by omega),hl,Nat.sub_self,List.drop_eq_getElem_cons hi,List.set_cons_zero,List.take_succ_eq_append_getElem hb,List.append_assoc];simp only[Option.getD_some] at hx;rw[hx];rfl
theorem aqk (A B:List UInt32)(i:Nat)(h:A.length=B.length)(hi:i<A.length):(mix A B i).getD i 0=A.getD i 0:=by
 unfold mix;have hl:(B.take i).length=i:=by simp;omega
 rw[List.getD_eq_getElem?_getD,List.getElem?_append_right (by omega),hl,Nat.sub_self,List.drop_eq_getElem_cons hi,List.getD_eq_getElem?_getD,List.getElem?_eq_getElem hi];rfl
theorem aql (s r:S8)(i:Nat)(h:i<8):(s.add r).list.getD i 0=wadd (s.list.getD i 0) (r.list.getD i 0):=by
 match i,h with
 | 0,_=>rfl
 | 1,_=>rfl
 | 2,_=>rfl
 | 3,_=>rfl
 | 4,_=>rfl
 | 5,_=>rfl
 | 6,_=>rfl
 | 7,_=>rfl
theorem alj:∃ ie,Tryz.prog.info? 247=some ie∧ie.size=1:=by
 have h:(Tryz.prog.info? 247).map (·.size)=some 1:=by kernel_rfl
 cases hq:Tryz.prog.info? 247 with
 | none=>rw[hq] at h;cases h
 | some ie=>rw[hq] at h;exact ⟨ie,rfl,by simpa using h⟩
theorem ac3 (s:S8)(v:Value)(l:List UInt8)(gk:Nat)(k:List UInt32)(w:World)(h:Rd w v l)(hl:l.length=64)(hk:Arr 264 w gk k)(hkl:k.length=64):
  Calls Tryz.prog 248 #[.agg (aal s.list),v,.pointer (some ⟨gk,0,none⟩)] w fun e w'=>e=.returned (.agg (aal (comp k s l).list))∧Kp w w':=by
 obtain ⟨a,c,rfl,h1,h2⟩:=h.shape;rw[hl] at h h1 ⊢;have HL:=Lib.hid hl;have HKL:=Lib.hid hkl;clear hl hkl;go_enter Tryz.func248,Tryz.ntmps248;go_wp2_with fail;refine (ajk _ l _ (h.kp (((Kp.refl _).alloc _).alloc _)) HL.out).mono ?_;rintro e w1 ⟨rfl,hk1⟩;have hB:Arr 252 w1 w.heap.size s.list:=((Arr.new _ w (aal s.list) s.list rfl).alloc _).kp hk1;have hR:Arr 252 w1 (w.heap.size+1) (aaG 8):=by
  have:=Arr.new 252 (w.alloc (.cells (aal s.list) 252)) (aal (aaG 8)) (aaG 8) rfl;rw[World.size_alloc] at this;exact this.kp hk1
 have hkw:Kp w w1:=(((Kp.refl w).alloc _).alloc _).trans hk1;have hkk:=hk.kp hkw;go_wp2_with (first
  | (refine aaq (by kernel_rfl) rfl rfl (.tmp 7) (.tmp 24) rfl w1.heap.size (aaG 64) (acx l 64) rfl rfl (Arr.new _ _ _ _ rfl) (aaS 64) (aaK l 64) ?_;intro w2 hW hbut))
 have hB2:=hbut.arr (hB.alloc _) (by have:=hB.lt;omega);have hR2:=hbut.arr (hR.alloc _) (by have:=hR.lt;omega);have hk2:=hbut.arr (hkk.alloc _) (by have:=hkk.lt;omega);have hkp2:Kp w w2:=hbut.below (hkw.alloc _) (hkw.size);clear hbut hB hR hkk hkw hk1 hk h;have c0:w2.cell? ⟨w.heap.size,0,none⟩=some (.int .u32 (arO s.a)):=hB2.cell 0 (Nat.lt_of_sub_eq_succ rfl);have c1:w2.cell? ⟨w.heap.size,1,none⟩=some (.int .u32 (arO s.b)):=hB2.cell 1 (Nat.lt_of_sub_eq_succ rfl);have c2:w2.cell? ⟨w.heap.size,2,none⟩=some (.int .u32 (arO s.c)):=hB2.cell 2 (Nat.lt_of_sub_eq_succ rfl);have c3:w2.cell? ⟨w.heap.size,3,none⟩=some (.int .u32 (arO s.d)):=hB2.cell 3 (Nat.lt_of_sub_eq_succ rfl);have c4:w2.cell? ⟨w.heap.size,4,none⟩=some (.int .u32 (arO s.e)):=hB2.cell 4 (Nat.lt_of_sub_eq_succ rfl);have c5:w2.cell? ⟨w.heap.size,5,none⟩=some (.int .u32 (arO s.f)):=hB2.cell 5 (Nat.lt_of_sub_eq_succ rfl);have c6:w2.cell? ⟨w.heap.size,6,none⟩=some (.int .u32 (arO s.g)):=hB2.cell 6 (Nat.lt_of_sub_eq_succ rfl);have c7:w2.cell? ⟨w.heap.size,7,none⟩=some (.int .u32 (arO s.h)):=hB2.cell 7 (Nat.lt_of_sub_eq_succ rfl);go_quiet (fail)
 clear c0 c1 c2 c3 c4 c5 c6 c7;go_wp2_with fail;obtain ⟨w3,hw3⟩:∃ w3,w2.drewN nq=w3:=⟨_,rfl⟩;have hB3:=hB2.drewN nq;have hR3:=hR2.drewN nq;have hk3:=hk2.drewN nq;have hW3:=hW.drewN nq;have hkp3:Kp w (w2.drewN nq):=hkp2.drewN nq;rw[hw3] at hB3 hR3 hk3 hW3 hkp3 ⊢;clear hw3 hB2 hR2 hk2 hW hkp2;have HKL2:=HKL.out;have HWL:=aaK l 64;go_loopw[8,9,10,11,12,13,14,15,41] (fun sa sb sc sd se sf sg sh i wr=>∃ t:Nat,t≤64∧i=.int .i64 t∧(∃ r,r=rnds k (acx l 64) s t∧sa=.int .u32 (arO r.a)∧sb=.int .u32 (arO r.b)∧sc=.int .u32 (arO r.c)∧sd=.int .u32 (arO r.d)∧se=.int .u32 (arO r.e)∧sf=.int .u32 (arO r.f)∧sg=.int .u32 (arO r.g)∧sh=.int .u32 (arO r.h))∧∃ n,wr=w3.drewN n) (fun _ _ _ _ _ _ _ _ i _=>64 - (intOf i).toNat)
 case atStart=>exact ⟨0,by omega,rfl,⟨s,rfl,rfl,rfl,rfl,rfl,rfl,rfl,rfl,rfl⟩,0,rfl⟩
 case round=>
  obtain ⟨t,ht,rfl,⟨r,hr,rfl,rfl,rfl,rfl,rfl,rfl,rfl,rfl⟩,n,rfl⟩:=hrel;by_cases hlt:t<64
  ·have ck:=(hk3.drewN n).cell t (by omega)
   have cw:=(hW3.drewN n).cell t (by omega);have HR:=Lib.hid hr;have q:(t:Int)<64:=by omega
   obtain ⟨wn,hwn⟩:∃ wn,w3.drewN n=wn:=⟨_,rfl⟩;rw[hwn] at ck cw ⊢;have HWN:=Lib.hid hwn;clear hr HKL2 HWL hwn;have hsg:IntKind.u32.signed=false:=rfl;go_wp2_with ((go_at_call 268;refine (alh _ _).mono ?_;rintro e w' ⟨rfl,rfl⟩))
   go_quiet ((go_at_call 268;exact ae6 (aoL _ _)))
   go_wp2_with ((go_at_call 268;refine (alh _ _).mono ?_;rintro e w' ⟨rfl,rfl⟩))
   go_roundw
   case rel=>exact ⟨t+1,by omega,by go_num,⟨rnd r (k.getD t 0) ((acx l 64).getD t 0),by rw[HR.out];rfl,rfl,rfl,rfl,rfl,rfl,rfl,rfl,rfl⟩,n+nq,by rw[← HWN.out,World.drewN_drewN]⟩
   case measure=>simp[intOf];omega
  ·obtain rfl:t=64:=by omega
   have HR:=Lib.hid hr;have hB4:=hB3.drewN n;have hR4:=hR3.drewN n;have hkp4:Kp w (w3.drewN n):=hkp3.drewN n;obtain ⟨w4,hw4⟩:∃ w4,w3.drewN n=w4:=⟨_,rfl⟩;rw[hw4] at hB4 hR4 hkp4 ⊢;clear hr HKL2 HWL hw4 hB3 hR3 hkp3 hk3 hW3 ht hlt;go_wp2_with fail;go_loopw[105] (fun i wr=>∃ t:Nat,t≤8∧i=.int .i64 t∧Arr 252 wr w.heap.size (mix s.list (s.add r).list t)∧Arr 252 wr (w.heap.size+1) (aaG 8)∧Kp w wr) (fun i _=>8 - (intOf i).toNat)
   case atStart=>exact ⟨0,by omega,rfl,hB4,hR4,hkp4⟩
   case round=>
    clear hB4 hR4 hkp4;obtain ⟨i,hi,rfl,hB,hR,hkp⟩:=hrel;by_cases hlt:i<8
    ·have cb:=hB.cell i (by rw[afe s.list (s.add r).list i rfl hi];exact hlt)
     have cf:=hB.frozen i (by rw[afe s.list (s.add r).list i rfl hi];exact hlt);rw[aqk s.list (s.add r).list i rfl hlt] at cb;have hs:=ant s.list (s.add r).list i rfl hlt _ (aql s r i hlt);have hidx:∀ W,(Instr.index 252 (.agg (aal r.list)) (.int .i64 i)).run Tryz.prog W=.ok (.int .u32 (arO (r.list.getD i 0))) W:=fun W=>by
      obtain ⟨ie,hie,hsz⟩:=alj;exact adh W 252 247 8 ie _ Tryz.underlying252 hie hsz Tryz.underlying247 rfl _ rfl i hlt _ (afc r.list i hlt)
     have hidx':∀ W,(Instr.index 252 (.agg #[.int .u32 (arO r.a),.int .u32 (arO r.b),.int .u32 (arO r.c),.int .u32 (arO r.d),.int .u32 (arO r.e),.int .u32 (arO r.f),.int .u32 (arO r.g),.int .u32 (arO r.h)]) (.int .i64 i)).run Tryz.prog W=.ok (.int .u32 (arO (r.list.getD i 0))) W:=hidx;generalize s.list.getD i 0=x at *;generalize r.list.getD i 0=y at *;have HS:=Lib.hid hs;have q:(i:Int)<8:=by omega
     clear hs hidx;go_wp2_with fail;go_roundw
     case rel=>exact ⟨i+1,by omega,by go_num,hB.setTo i _ HS.out,hR.other _ _ (by simp),Below.setCell hkp (by simp) _⟩
     case measure=>simp[intOf];omega
    ·obtain rfl:i=8:=by omega
     have hm:mix s.list (s.add r).list 8=(s.add r).list:=rfl;rw[hm] at hB;clear hm;go_wp2_with (first
      | (refine aaF Tryz.underlying252 (by kernel_rfl) rfl (.tmp 3) rfl w.heap.size (s.add r).list rfl hB rfl ?_)
      | (refine aaq (by kernel_rfl) rfl rfl (.tmp 6) (.tmp 116) rfl (w.heap.size+1) (aaG 8) (s.add r).list rfl rfl hR rfl rfl ?_;intro w5 hR5 hbut))
     refine bodyPost_ret (abZ Tryz.underlying252 (by kernel_rfl) rfl _ _ (w.heap.size+1) (s.add r).list rfl hR5 rfl) rfl ?_;exact ⟨by rw[HR.out];rfl,hbut.below hkp (by omega)⟩
attribute [local go_sem] agr aoI anh aoJ u_or ani ajd arh arf aqe
theorem aoU (s:S8)(v:Value)(all:List UInt8)(at':Nat)(gk ck:Nat)(k:List UInt32)(w:World)(h:Rd w v all)(hl:at'+64≤all.length)(hk:Arr 247 w gk k)(hkl:k.length=64):
  Calls Tryz.prog 226 #[.agg (aal s.list),v,.int .i64 at',.slice (some ⟨gk,0,none⟩) 64 ck] w fun e w'=>e=.returned (.agg (aal (comp k s ((all.drop at').take 64)).list))∧Kp w w':=by
 obtain ⟨l,hL⟩:∃ l,(all.drop at').take 64=l:=⟨_,rfl⟩;rw[hL];have HKL:=Lib.hid hkl;have HLL:=Lib.hid hL;clear hL hkl;go_enter Tryz.func226,Tryz.ntmps226;go_wp2_with ((at_make;(refine aaT (z:=.int .u32 0) (b:=4) Tryz.underlying250 (by kernel_rfl) rfl (by decide) rfl _ _ rfl 64 rfl rfl (by decide) ?_);intro w1 hw1;have HW1:=Lib.hid hw1;clear hw1))
 have hR:Arr 252 ((w.alloc (.cells (aal s.list) 252)).alloc (.cells (aal (aaG 8)) 252)) (w.heap.size+1) (aaG 8):=by
  have:=Arr.new 252 (w.alloc (.cells (aal s.list) 252)) (aal (aaG 8)) (aaG 8) rfl;rw[World.size_alloc] at this;exact this
 have hB0:Arr 252 w1 w.heap.size s.list:=by rw[HW1.out];exact ((Arr.new _ w _ s.list rfl).alloc _).alloc _
 have hR0:Arr 252 w1 (w.heap.size+1) (aaG 8):=by rw[HW1.out];exact hR.alloc _
 have hW0:Arr 247 w1 (w.heap.size+1+1) (upto l 0):=by
  rw[HW1.out];have:=Arr.new 247 ((w.alloc (.cells (aal s.list) 252)).alloc (.cells (aal (aaG 8)) 252)) (aal (aaG 64)) (upto l 0) rfl;rw[World.size_alloc,World.size_alloc,ajj] at this;exact this
 have hK0:Kp w w1:=by rw[HW1.out];exact (((Kp.refl w).alloc _).alloc _).alloc _
 clear hR;go_loopw[10] (fun i wr=>∃ t:Nat,t≤16∧i=.int .i64 t∧Arr 252 wr w.heap.size s.list∧Arr 252 wr (w.heap.size+1) (aaG 8)∧Arr 247 wr (w.heap.size+1+1) (upto l t)∧Kp w wr) (fun i _=>16 - (intOf i).toNat)
 case atStart=>exact ⟨0,by omega,rfl,hB0,hR0,hW0,hK0⟩
 case round=>
  clear hB0 hR0 hW0 hK0 HW1;obtain ⟨t,ht,rfl,hB,hR,hW,hkp⟩:=hrel;by_cases hlt:t<16
  ·have hg:∀ j,j<64→l.getD j 0=all.getD (at'+j) 0:=fun j hj=>by
    rw[← HLL.out,List.getD_eq_getElem?_getD,List.getElem?_take_of_lt hj,List.getElem?_drop,List.getD_eq_getElem?_getD]
   have hn:ab6 l (acx l t) t=adQ (all.getD (at'+4*t) 0) (all.getD (at'+4*t+1) 0) (all.getD (at'+4*t+2) 0) (all.getD (at'+4*t+3) 0):=by
    unfold ab6;rw[if_pos hlt,hg _ (by omega),hg _ (by omega),hg _ (by omega),hg _ (by omega)];simp only[Nat.add_assoc]
   have hset:=(af7 l t (by omega));rw[hn] at hset;have HS:=Lib.hid hset;have hlen:=acA l t (by omega);have hlenm:all.length≤maxLen:=by
    obtain ⟨a,c,_,h1,h2⟩:=h.shape;omega
   unfold maxLen at hlenm;clear hg hn hset;go_wp2_with fail;refine (aoO _ v all (at'+4*t) _ (h.kp hkp) (by omega) (by simp)).mono ?_;rintro e w' ⟨rfl,n,rfl⟩;have ca:=(hW.drewN n).cell t (by omega);have cf:=(hW.drewN n).frozen t (by omega);have q:(t:Int)<64:=by omega
   clear hlen;go_wp2_with fail;go_roundw
   case rel=>exact ⟨t+1,by omega,by go_num,(hB.drewN n).other _ _ (by simp;omega),(hR.drewN n).other _ _ (by simp),(hW.drewN n).setTo t _ HS.out,Below.setCell (hkp.drewN n) (by simp;omega) _⟩
   case measure=>simp[intOf];omega
  ·obtain rfl:t=16:=by omega
   clear ht hlt;go_wp2_with fail;go_loopw[11] (fun i wr=>∃ t:Nat,16≤t∧t≤64∧i=.int .i64 t∧Arr 252 wr w.heap.size s.list∧Arr 252 wr (w.heap.size+1) (aaG 8)∧Arr 247 wr (w.heap.size+1+1) (upto l t)∧Kp w wr) (fun i _=>64 - (intOf i).toNat)
   case atStart=>exact ⟨16,by omega,by omega,rfl,hB,hR,hW,hkp⟩
   case round=>
    clear hB hR hW hkp;obtain ⟨t,h16,ht,rfl,hB,hR,hW,hkp⟩:=hrel;by_cases hlt:t<64
    ·have hlen:=acA l t (by omega)
     have hn:ab6 l (acx l t) t=wadd (wadd (wadd (small 17 19 10 ((upto l t).getD (t - 2) 0)) ((upto l t).getD (t - 7) 0)) (small 7 18 3 ((upto l t).getD (t - 15) 0))) ((upto l t).getD (t - 16) 0):=by
      unfold ab6;rw[if_neg (by omega),acL l t _ (by omega),acL l t _ (by omega),acL l t _ (by omega),acL l t _ (by omega)]
     have hset:=(af7 l t (by omega));rw[hn] at hset;have c2:=hW.cell (t - 2) (by omega);have c7:=hW.cell (t - 7) (by omega);have c15:=hW.cell (t - 15) (by omega);have c16:=hW.cell (t - 16) (by omega);have ca:=hW.cell t (by omega);have cf:=hW.frozen t (by omega);generalize (upto l t).getD (t - 2) 0=x2 at *;generalize (upto l t).getD (t - 7) 0=x7 at *;generalize (upto l t).getD (t - 15) 0=x15 at *;generalize (upto l t).getD (t - 16) 0=x16 at *;have i2:IntKind.i64.wrap ((t:Int) - 2)=(t:Int) - 2:=IntWalk.i64_in _ (by omega);have i7:IntKind.i64.wrap ((t:Int) - 7)=(t:Int) - 7:=IntWalk.i64_in _ (by omega);have i15:IntKind.i64.wrap ((t:Int) - 15)=(t:Int) - 15:=IntWalk.i64_in _ (by omega);have i16:IntKind.i64.wrap ((t:Int) - 16)=(t:Int) - 16:=IntWalk.i64_in _ (by omega);have n2:((t:Int) - 2).toNat=t - 2:=by omega
     have n7:((t:Int) - 7).toNat=t - 7:=by omega
     have n15:((t:Int) - 15).toNat=t - 15:=by omega
     have n16:((t:Int) - 16).toNat=t - 16:=by omega
     have p2:(2:Int)≤(t:Int):=by omega
     have p7:(7:Int)≤(t:Int):=by omega
     have p15:(15:Int)≤(t:Int):=by omega
     have p16:(16:Int)≤(t:Int):=by omega
     have q2:(t:Int) - 2<64:=by omega
     have q7:(t:Int) - 7<64:=by omega
     have q15:(t:Int) - 15<64:=by omega
     have q16:(t:Int) - 16<64:=by omega
     have q:(t:Int)<64:=by omega
     have HS:=Lib.hid hset;clear hset hn hlen;go_wp2_with ((go_at_call 258;refine (aik _ _ _ (by decide) (by decide)).mono ?_;rintro e w' ⟨rfl,rfl⟩))
     go_still_tail 18,(by kernel_rfl)
     go_wp2_with fail;go_roundw
     case rel=>
      repeat apply Exists.intro
      refine ⟨?_,rfl⟩;exact ⟨t+1,by omega,by omega,by go_num,(hB.other _ _ (by simp;omega)).drew,(hR.other _ _ (by simp)).drew,(hW.setTo t _ HS.out).drew,(Below.setCell hkp (by simp;omega) _).drew⟩
     case measure=>simp[intOf];omega
    ·obtain rfl:t=64:=by omega
     rw[ali] at hW;have c0:wr.cell? ⟨w.heap.size,0,none⟩=some (.int .u32 (arO s.a)):=hB.cell 0 (Nat.lt_of_sub_eq_succ rfl);have c1:wr.cell? ⟨w.heap.size,1,none⟩=some (.int .u32 (arO s.b)):=hB.cell 1 (Nat.lt_of_sub_eq_succ rfl);have c2:wr.cell? ⟨w.heap.size,2,none⟩=some (.int .u32 (arO s.c)):=hB.cell 2 (Nat.lt_of_sub_eq_succ rfl);have c3:wr.cell? ⟨w.heap.size,3,none⟩=some (.int .u32 (arO s.d)):=hB.cell 3 (Nat.lt_of_sub_eq_succ rfl);have c4:wr.cell? ⟨w.heap.size,4,none⟩=some (.int .u32 (arO s.e)):=hB.cell 4 (Nat.lt_of_sub_eq_succ rfl);have c5:wr.cell? ⟨w.heap.size,5,none⟩=some (.int .u32 (arO s.f)):=hB.cell 5 (Nat.lt_of_sub_eq_succ rfl);have c6:wr.cell? ⟨w.heap.size,6,none⟩=some (.int .u32 (arO s.g)):=hB.cell 6 (Nat.lt_of_sub_eq_succ rfl);have c7:wr.cell? ⟨w.heap.size,7,none⟩=some (.int .u32 (arO s.h)):=hB.cell 7 (Nat.lt_of_sub_eq_succ rfl);have hk3:=hk.kp hkp;clear h hl hk;go_wp2_with fail;have C:=Lib.hid (And.intro c0 (And.intro c1 (And.intro c2 (And.intro c3 (And.intro c4 (And.intro c5 (And.intro c6 c7)))))));clear c0 c1 c2 c3 c4 c5 c6 c7;have HKL2:=HKL.out;have HWL:=aaK l 64;go_loopw[16,17,18,19,20,21,22,23,24] (fun sa sb sc sd se sf sg sh i wq=>∃ t:Nat,t≤64∧i=.int .i64 t∧(∃ r,r=rnds k (acx l 64) s t∧sa=.int .u32 (arO r.a)∧sb=.int .u32 (arO r.b)∧sc=.int .u32 (arO r.c)∧sd=.int .u32 (arO r.d)∧se=.int .u32 (arO r.e)∧sf=.int .u32 (arO r.f)∧sg=.int .u32 (arO r.g)∧sh=.int .u32 (arO r.h))∧∃ n,wq=wr.drewN n) (fun _ _ _ _ _ _ _ _ i _=>64 - (intOf i).toNat)
     case atStart=>exact ⟨0,by omega,rfl,⟨s,rfl,rfl,rfl,rfl,rfl,rfl,rfl,rfl,rfl⟩,0,rfl⟩
     case round=>
      obtain ⟨t,ht,rfl,⟨r,hr,rfl,rfl,rfl,rfl,rfl,rfl,rfl,rfl⟩,n,rfl⟩:=hrel;by_cases hlt:t<64
      ·have ck:=(hk3.drewN n).cell t (by omega)
       have cw:=(hW.drewN n).cell t (by omega);have HR:=Lib.hid hr;have q:(t:Int)<64:=by omega
       obtain ⟨wn,hwn⟩:∃ wn,wr.drewN n=wn:=⟨_,rfl⟩;rw[hwn] at ck cw ⊢;have HWN:=Lib.hid hwn;clear hr HKL2 HWL hwn;have hsg:IntKind.u32.signed=false:=rfl;go_wp2_with fail;go_quiet ((go_at_call 258;exact ae6 (aik _ _ _ (by decide) (by decide))))
       go_wp2_with ((go_at_call 258;refine (aik _ _ _ (by decide) (by decide)).mono ?_;rintro e w' ⟨rfl,rfl⟩))
       go_roundw
       case rel=>
        repeat apply Exists.intro
        refine ⟨?_,rfl⟩;exact ⟨t+1,by omega,by go_num,⟨rnd r (k.getD t 0) ((acx l 64).getD t 0),by rw[HR.out];rfl,rfl,rfl,rfl,rfl,rfl,rfl,rfl,rfl⟩,n+nq,by rw[← HWN.out,World.drewN_drewN]⟩
       case measure=>simp[intOf];omega
      ·obtain rfl:t=64:=by omega
       have HR:=Lib.hid hr;clear hr HKL2 HWL;obtain ⟨c0,c1,c2,c3,c4,c5,c6,c7⟩:=C.out;go_wp2_with ((refine aaq (by kernel_rfl) rfl rfl (.tmp 8) (.tmp 206) rfl (w.heap.size+1) (aaG 8) (s.add r).list rfl rfl (hR.drewN n) rfl rfl ?_;intro w5 hR5 hbut))
       refine bodyPost_ret (abZ Tryz.underlying252 (by kernel_rfl) rfl _ _ (w.heap.size+1) (s.add r).list rfl hR5 rfl) rfl ?_;exact ⟨by rw[HR.out];rfl,hbut.below (hkp.drewN n) (by omega)⟩
end Go.Proofs.YthmhklmkgkfcpaaGreatDoor
