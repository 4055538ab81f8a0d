import Derived.Test.YtbhkdlpdolioaaaP2
import Derived.Test.YtbhkdlpdolioaaaP18
set_option linter.unusedVariables false
set_option linter.unusedSimpArgs false
set_option maxHeartbeats 8000000
set_option maxRecDepth 100000
namespace Go.Proofs.Ytbhkdlpdolioaaa
open Go.RowKit
theorem acR (l:List UInt8):(aaV l).length=l.length+9+fill l.length:=by unfold aaV;rw[List.length_append,aaU];omega
theorem adf (l:List UInt8):(aaV l).length=64*((aaV l).length / 64):=by
 have:=ac4 l.length;have h:(aaV l).length=l.length+(pad l.length).length:=by unfold aaV;rw[List.length_append]
 omega
theorem aap (s:S8)(l:List UInt8)(k:Nat):aaf s l (k+1)=comp keyL (aaf s l k) ((l.drop (64*k)).take 64):=by rw[aaf]
theorem adg (n:Nat)(h:n≤2000):ac5 (n:Int)=pad n:=by
 unfold ac5;rw[if_pos (by omega),Int.toNat_natCast]
theorem afd (x:Int)(s:S8)(v:Value)(all:List UInt8)(at':Nat)(gk ck:Nat)(k:List UInt32)(w:World)(h:Rd w v all)(hl:at'+64≤all.length)(hk:Arr 59 w gk k)(hkl:k.length=64)(hx:x=at'):
  Calls Try.prog 59 #[.agg (aab s.list),v,.int .i64 x,.slice (some ⟨gk,0,none⟩) 64 ck] w fun e w'=>e=.returned (.agg (aab (comp k s ((all.drop at').take 64)).list))∧Kp w w':=by
 subst hx;exact afc s v all at' gk ck k w h hl hk hkl
theorem adx (x:UInt32):∃ b0 b1 b2 b3:UInt8,acw x=[b0,b1,b2,b3]∧IntKind.u8.wrap (af9 x / 16777216)=(b0.toNat:Int)∧IntKind.u8.wrap (af9 x / 65536 % 256)=(b1.toNat:Int)∧IntKind.u8.wrap (af9 x / 256 % 256)=(b2.toNat:Int)∧IntKind.u8.wrap (af9 x % 256)=(b3.toNat:Int):=by
 refine ⟨_,_,_,_,rfl,?_,?_,?_,?_⟩ <;> rw[IntKind.wrap_u8] <;> unfold af9 <;> simp
theorem abT (v:Value)(l:List UInt8)(w:World)(h:Rd w v l)(hl:l.length≤2000):
  Calls Try.prog 34 #[v] w fun e w'=>(∃ v',e=.returned v'∧Ow 5 w' w.heap.size v' (aam l))∧Kp w w':=by
 have U:=af8;obtain ⟨a,c,rfl,h1,h2⟩:=h.shape;unfold maxLen at h2;have hpl:=acR l;have hpw:=adf l;have hfl:=abR l.length;obtain ⟨P,hP⟩:∃ P,aaV l=P:=⟨_,rfl⟩;have hPP:l++pad l.length=P:=hP;have hdg:aam l=(aaf aav P (P.length / 64)).bytes:=by unfold aam;rw[hP]
 rw[hdg];rw[hP] at hpl hpw;obtain ⟨N,hN⟩:∃ N,P.length / 64=N:=⟨_,rfl⟩;rw[hN] at hpw ⊢;have HP:=Lib.hid hPP;have HL:=Lib.hid hpw;have hN2:N≤40:=by omega
 have hPL:P.length≤2600:=by omega
 have hpo:=adg l.length hl;have HPO:=Lib.hid hpo;have hlb:=hl;clear hdg hP hPP hpw hpl hN hpo hfl;go_enter Try.func34,Try.ntmps34;go_wp2_with (first
  | (at_builtin;refine aaa U rfl _ _ rfl w.heap.size _ _ rfl (Ow.lit w 5 w.heap.size 0 #[] [] (Nat.le_refl _) rfl (by decide) rfl) _ l rfl (h.kp ((Kp.refl w).alloc _)) ?c1 ?c2 ?_;rotate_right;intro v1 w1 ho1 hg1 _;have hk1:Kp w w1:=Kp.grown ((Kp.refl w).alloc _) hg1 (by intro k e;cases e;exact Nat.le_refl _);clear hg1)
  | (go_at_call 56;refine (ad4 _ _).mono ?_;rintro e w2 ⟨⟨vp,rfl,hrp⟩,hk2⟩;rw[HPO.out] at hrp)
  | (at_builtin;refine aaa U rfl _ _ rfl w.heap.size _ _ rfl (ho1.kp hk2) _ (pad l.length) rfl hrp ?c3 ?c4 ?_;rotate_right;intro v2 w3 ho2 hg2 _;have hk3:Kp w w3:=Kp.grown (hk1.trans hk2) hg2 ho1.own_ge;rw[List.nil_append,HP.out] at ho2;clear hg2))
 case c1=>simp;omega
 case c2=>simp
 case c3=>have:=abR l.length;have:=aaU l.length;simp;omega
 case c4=>exact (hk1.trans hk2).size
 refine (adw _).mono ?_;rintro e w4 ⟨⟨gk,rfl,hA,_⟩,hk4⟩;go_wp2_with fail;refine (adb _).mono ?_;rintro e w5 ⟨rfl,hk5⟩;have hA5:=hA.kp hk5;have hr5:=(ho2.rd.kp hk4).kp hk5;have hkp5:Kp w w5:=(hk3.trans hk4).trans hk5;clear hA hk4 hk5 ho2 hk3 ho1 hk1 hk2 hrp;obtain ⟨a2,c2,rfl,hq1,hq2⟩:=hr5.shape;unfold maxLen at hq2;go_wp2_with (refine aad (by kernel_rfl) rfl rfl (.tmp 5) (.tmp 17) rfl w5.heap.size (aai 8) aav.list rfl rfl (Arr.new _ _ _ _ rfl) rfl rfl ?_;intro w6 hR6 hbut)
 have hk6:Kp w5 w6:=hbut.below ((Kp.refl w5).alloc _) (Nat.le_refl _);clear hbut;go_loopw[6] (fun i wr=>∃ k:Nat,k≤N∧i=.int .i64 (64*(k:Int))∧Arr 91 wr w5.heap.size (aaf aav P k).list∧Kp w5 wr) (fun i _=>(64*N - (intOf i).toNat))
 case atStart=>exact ⟨0,by omega,rfl,hR6,hk6⟩
 case round=>
  clear hR6 hk6;obtain ⟨k,hkN,rfl,hR,hk⟩:=hrel;by_cases hlt:k<N
  ·have hcond:64*(k:Int)<(P.length:Int):=by rw[HL.out];omega
   have HS:=Lib.hid (afd (64*(k:Int)) (aaf aav P k) (.slice a2 P.length c2) P (64*k) gk 64 keyL wr (hr5.kp hk) (by rw[HL.out];omega) (hA5.kp hk) rfl (by simp));rw[← aap] at HS;obtain ⟨s',hs'⟩:∃ s',aaf aav P (k+1)=s':=⟨_,rfl⟩;rw[hs'] at HS;have HS':=Lib.hid hs';clear hs';generalize aaf aav P k=s at *;go_wp2_with (refine aag Try.underlying91 (by kernel_rfl) rfl (.tmp 5) rfl w5.heap.size s.list rfl hR rfl ?_)
   refine HS.out.mono ?_;rintro e w7 ⟨rfl,hk7⟩;have hR7:=hR.kp hk7;have hk8:Kp w5 w7:=hk.trans hk7;clear hR hk hk7;go_wp2_with (refine aad (by kernel_rfl) rfl rfl (.tmp 5) (.tmp 28) rfl w5.heap.size s.list s'.list rfl rfl hR7 rfl rfl ?_;intro w8 hR8 hbut)
   go_roundw
   case rel=>exact ⟨k+1,by omega,by congr 1,by rw[HS'.out];exact hR8,hbut.below hk8 (Nat.le_refl _)⟩
   case measure=>simp[intOf];omega
  ·obtain rfl:k=N:=by omega
   have hcond:¬64*(k:Int)<(P.length:Int):=by rw[HL.out];omega
   obtain ⟨s,hsn⟩:∃ s,aaf aav P k=s:=⟨_,rfl⟩;rw[hsn] at hR;have HSN:=Lib.hid hsn;clear hsn;go_wp2_with fail;rename World=>wA
   go_loopw[7,8] (fun v i wq=>∃ j:Nat,j≤8∧i=.int .i64 j∧Ow 5 wq wA.heap.size v (abm s j)∧Kp wA wq) (fun _ i _=>(8 - intOf i).toNat)
   case atStart=>exact ⟨0,by omega,rfl,Ow.nil _ _ _,Kp.refl _⟩
   case round=>
    obtain ⟨j,hj,rfl,hown,hkq⟩:=hrel;by_cases hlt2:j<8
    ·have cb:=(hR.kp hkq).cell j hlt2
     have hs:=abn s j hlt2;have hlen:=aaK s j (by omega);generalize s.list.getD j 0=x at *;obtain ⟨b0,b1,b2,b3,h4,v0,v1',v2',v3⟩:=adx x;rw[h4] at hs;generalize abm s j=L at *;have HS:=Lib.hid hs;have HLn:=Lib.hid hlen;have q:(j:Int)<8:=by omega
     clear hs hlen h4 hcond;go_wp2_with fail;have u0:=adO x;have u1:=u_lt x;have w0:IntKind.u32.wrap ((af9 x).tdiv 16777216)=af9 x / 16777216:=by rw[Int.tdiv_eq_ediv_of_nonneg u0];exact aar _ (by omega) (by omega)
     have w1':IntKind.u32.wrap ((af9 x).tdiv 65536)=af9 x / 65536:=by rw[Int.tdiv_eq_ediv_of_nonneg u0];exact aar _ (by omega) (by omega)
     have w2':IntKind.u32.wrap ((af9 x).tdiv 256)=af9 x / 256:=by rw[Int.tdiv_eq_ediv_of_nonneg u0];exact aar _ (by omega) (by omega)
     have m1:(af9 x / 65536).tmod 256=af9 x / 65536 % 256:=Int.tmod_eq_emod_of_nonneg (by omega);have m2:(af9 x / 256).tmod 256=af9 x / 256 % 256:=Int.tmod_eq_emod_of_nonneg (by omega);have m3:(af9 x).tmod 256=af9 x % 256:=Int.tmod_eq_emod_of_nonneg u0;clear u0 u1;have hblt:w5.heap.size<wr.heap.size:=World.block_lt_of_cell? wr _ cb;go_region_held3 (fun W=>W.cell? ⟨w5.heap.size,j,none⟩=some (.int .u32 (af9 x)))
      (first
       | exact cb
       | exact (((Kp.refl wr).alloc _).drew).cell cb
       | exact (((Kp.refl wr).drew).alloc _).cell cb
       | exact (Kp.grown (((Kp.refl wr).alloc _).drew) hg9 (fun k e=>absurd e (by simp))).cell cb
       | (exact cb9)
       | trace_state)
      (first
       | (refine act U rfl (.tmp 33) (.tmp 56) rfl wA.heap.size _ _ rfl (hown.kp ((Kp.refl _).alloc _).drew) _ 4 4 [b0,b1,b2,b3] rfl ((Ow.lit wr 5 0 4 _ _ (Nat.zero_le _) rfl (by decide) rfl).kp (Kp.refl _).drew).rd (by rw[HLn.out];simp;omega) (by have:=hkq.size;simp;omega) ?_;intro v' w9 ho9 hg9;have cb9:w9.cell? ⟨w5.heap.size,j,none⟩=some (.int .u32 (af9 x)):=(Below.cell (Kp.grown (hkq.alloc _).drew hg9 hown.own_ge) (p:=⟨w5.heap.size,j,none⟩) (Arr.lt hR)).trans ((hR.cell j hlt2).trans (by have:=(hR.kp hkq).cell j hlt2;rw[cb] at this;exact this.symm))))
     all_goals
      go_wp2_with fail;go_roundw
      case rel=>exact ⟨j+1,by omega,by go_num,by rw[HS.out];exact ho9,Kp.grown (hkq.alloc _).drew hg9 hown.own_ge⟩
      case measure=>simp[intOf];omega
    ·obtain rfl:j=8:=by omega
     go_wp2_with fail;go_ret;exact ⟨⟨_,rfl,by rw[HSN.out];exact hown.mono (hkp5.trans hk).size⟩,(hkp5.trans hk).trans hkq⟩
end Go.Proofs.Ytbhkdlpdolioaaa
