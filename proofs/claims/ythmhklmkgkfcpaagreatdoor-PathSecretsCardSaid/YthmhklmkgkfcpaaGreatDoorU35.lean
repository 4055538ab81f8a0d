import Derived.Test.YthmhklmkgkfcpaaGreatDoorU19
import Derived.Test.YthmhklmkgkfcpaaGreatDoorU20
import Derived.Test.YthmhklmkgkfcpaaGreatDoorU21
import Derived.Test.YthmhklmkgkfcpaaGreatDoorU32
import Derived.Test.YthmhklmkgkfcpaaGreatDoorU34
set_option linter.unusedVariables false
set_option linter.unusedSimpArgs false
set_option maxHeartbeats 8000000
set_option maxRecDepth 100000
namespace Go.Proofs.YthmhklmkgkfcpaaGreatDoor
open Go.RowKit
theorem Rd.bytesIn {w:World}{a:Option Addr}{c:Nat}{l:List UInt8}(h:Rd w (.slice a l.length c) l):Lib.BytesIn w a l.length (l.map fun b=>(b.toNat:Int)):=fun h0=>by
 obtain ⟨b,off,e,_,hc⟩:=h.at 0 h0;refine ⟨b,off,e,fun i hi=>?_⟩;rw[hc i hi,List.getD_eq_getElem?_getD,List.getElem?_eq_getElem hi,List.getD_eq_getElem?_getD,List.getElem?_map,List.getElem?_eq_getElem hi];rfl
theorem afP (l:List UInt8):Lib.bytesOf (l.map fun b=>(b.toNat:Int))=l:=by
 unfold Lib.bytesOf;rw[List.map_map];conv=>rhs;rw[← List.map_id l]
 refine List.map_congr_left fun b _=>?_
 simp
theorem abj (u v:Value)(l m:List UInt8)(w:World)(hu:Rd w u l)(hv:Rd w v m):
  Calls Tryz.prog 52 #[u,v] w fun e w'=>e=.returned (.bool (decide (l=m)))∧Kp w w':=by
 obtain ⟨a1,c1,rfl,p1,s1⟩:=hu.shape;obtain ⟨a2,c2,rfl,p2,s2⟩:=hv.shape;refine (Tryz.bytes_Equal_all a1 a2 l.length c1 m.length c2 (l.map fun b=>(b.toNat:Int)) (m.map fun b=>(b.toNat:Int)) w (List.length_map ..) (List.length_map ..) hu.bytesIn hv.bytesIn).mono ?_;rintro e w' ⟨rfl,rfl⟩;rw[afP,afP];refine ⟨?_,Kp.refl _⟩;by_cases e:l=m
 ·rw[decide_eq_true e,e];simp
 ·rw[decide_eq_false e];simp[e]
theorem amE (v:Value)(l:List Int)(w:World)(h:RI w v l)(hl:l.length≤1000000):
  Calls Tryz.prog 174 #[v] w fun e w'=>∃ u,e=.returned u∧OI 3 w' w.heap.size u l∧Kp w w':=by
 have S:=ad0
 have q:∀ (w:World) (a:Option Addr) (n c n' c':Nat),(binOp .eql 34 (.slice a n c) (.slice none n' c')).run Tryz.prog w=.ok (.bool a.isNone) w:=fun w a n c n' c'=>Lib.run_eql_slice_nil w _ _ a n c n' c' Tryz.underlying34
 have h':=h
 obtain ⟨a,c,rfl,hc,hm⟩:=h.shape
 cases a with
 | none=>
  have hl0:l=[]:=by
   by_cases h0:0<l.length
   ·obtain ⟨b,off,e,_⟩:=h.at 0 h0
    cases e
   ·exact List.eq_nil_of_length_eq_zero (by omega)
  subst hl0
  go_enter Tryz.func174,Tryz.ntmps174
  go_wp2_with fail
  go_ret
  exact ⟨_,rfl,OI.nil _ _ _,Kp.refl _⟩
 | some a=>
  go_enter Tryz.func174,Tryz.ntmps174
  go_wp2_with (at_builtin;refine aaw S rfl _ _ rfl w.heap.size _ [] rfl (RI.lit w _ #[] [] 0 rfl (by omega) rfl) _ l rfl (h'.kp ((Kp.refl _).alloc _)) ?c1 ?c2 ?_;rotate_right;intro v' w2 ho2 hg)
  case c1=>simp;omega
  case c2=>simp
  go_ret
  exact ⟨_,rfl,by simpa using ho2,Kp.grown (v:=.slice (some ⟨w.heap.size,0,none⟩) 0 0) ((Kp.refl _).alloc _) hg (by intro k hk;simp[Value.ownBlock] at hk;omega)⟩
theorem NL.flat9 {w:World}{b off n c:Nat}{t:List Nod}(h:NL w (.slice (some ⟨b,off,none⟩) n c) t)(h0:0<t.length):
  ∃ us:List Value,us.length=t.length*5∧(∀ z∈us,z.oneCell'=true)∧(∀ j z,us[j]?=some z→w.cell? ⟨b,off+j,none⟩=some z) ∧
   ∀ i,i<t.length→∃ p u h,(∀ f,f<5→us[i*5+f]?=(nodC (ats t i) p u h)[f]?)∧NIn w (ats t i) p u h:=by
 have hn:n=t.length:=by
  obtain ⟨a',c',e,_⟩:=h.shape;simp only[Value.slice.injEq] at e;exact e.2.1
 obtain ⟨b',off',ea,_,hi⟩:=h.at 0 (by omega);simp only[Option.some.injEq,Addr.mk.injEq,and_true] at ea;obtain ⟨rfl,rfl⟩:=ea;have hnil:∀ x:Value,aap (.slice none 0 0) x:=fun x g hg=>by cases hg
 obtain ⟨us,h1,h2,h3,h4⟩:=NAp.flat (v:=.slice none 0 0) (t:=t) (fun i hi'=>by
  obtain ⟨p,u,h,hn'⟩:=hi i (by omega);exact ⟨p,u,h,hn',hnil _,hnil _,hnil _⟩)
 refine ⟨us,h1,h2,h3,fun i hi'=>?_⟩;obtain ⟨p,u,h,a1,a2,_⟩:=h4 i hi';exact ⟨p,u,h,a1,a2⟩
theorem aid (v:Value)(t:List Nod)(w:World)(hv:NL w v t)(h0:0<t.length)(hl:t.length≤1000000):
  Calls Tryz.prog 105 #[v] w fun e w'=>(∃ v' us,e=.returned v'∧w'.ownsRow w.heap.size 81 5 v' t.length us∧(∀ z∈us,z.oneCell'=true) ∧
   ∀ i,i<t.length→∃ p u h,(∀ f,f<5→us[i*5+f]?=(nodC (ats t i) p u h)[f]?)∧NIn w (ats t i) p u h)∧Kp w w':=by
 have S:=anW;obtain ⟨i0,z0,hi0,hz0,hz1,hz2,hz3⟩:=S.hi;have q:∀ (w:World) (a:Option Addr) (n c n' c':Nat),(binOp .eql 22 (.slice a n c) (.slice none n' c')).run Tryz.prog w=.ok (.bool a.isNone) w:=fun w a n c n' c'=>Lib.run_eql_slice_nil w _ _ a n c n' c' Tryz.underlying22
 obtain ⟨a,c,rfl,hc,hm⟩:=hv.shape;obtain ⟨b,off,rfl,_,_⟩:=hv.at 0 h0;obtain ⟨us,h1,h2,h3,h4⟩:=hv.flat9 h0;have H3:=Lib.hid h3;have H4:=Lib.hid h4;have H2:=Lib.hid h2;have HBY:=Lib.hid (And.intro hl (Nat.mul_le_mul hl hz2));generalize t.length=N at *;have HM:=Lib.hid hm;have H1:=Lib.hid h1;clear hv h4 h3 hl h2 h0 hm h1;go_enter Tryz.func105,Tryz.ntmps105;go_wp2_with (at_builtin;refine wpList_append_own_at _ rfl _ _ 22 rfl w.heap.size 81 i0 z0 5 i0.bytes S.ht hi0 hz0 hz1 rfl hz3 (by decide) _ 0 [] rfl (World.ownsRow_made w #[] 0 (Nat.le_refl _) (Nat.zero_le _) (by simp)) ⟨b,off,none⟩ N c us rfl H1.out (fun j y hj=>by rw[Addr.add_mid];exact ((Kp.refl w).alloc _).cell (H3.out j y hj)) H2.out (by have:=HBY.out.1;unfold maxLen;omega) (by have:=HBY.out.2;rw[Nat.zero_add];omega) (by simp) ?_;intro v' w' k1 k2 _ k4)
 have K2:=Lib.hid (Kp.grown (w0:=w) (v:=.slice (some ⟨w.heap.size,0,none⟩) 0 0) ((Kp.refl _).alloc _) k2 (by intro k hk;simp[Value.ownBlock] at hk;omega));have K1:=Lib.hid k1;clear k1 k2 k4;go_ret;exact ⟨⟨_,us,rfl,by simpa using K1.out,H2.out,H4.out⟩,K2.out⟩
def amF (seed info half b:List UInt8):List UInt8 × Int:=
 if half.length≠32 then ([],5) else if unE seed half info b≠0 then ([],unE seed half info b) else if (unR seed half info b).length≠32 then ([],2) else (unR seed half info b,0)
theorem ahv (arO v x y:Value)(seed info half b:List UInt8)(w:World)(hu:Rd w arO seed)(hv:Rd w v info)(hx:Rd w x half)(hy:Rd w y b)(hil:info.length≤1400)(hbl:b.length≤1600):
  Calls Tryz.prog 120 #[arO,v,.agg #[x,y]] w fun e w'=>(∃ r,e=.returned (.tuple #[r,.int .i64 (amF seed info half b).2])∧Rd w' r (amF seed info half b).1)∧Kp w w':=by
 have HUW:=Lib.hid (fun W (hW:Kp w W)=>aiW arO x v y seed half info b W (hu.kp hW) (hx.kp hW) (hv.kp hW) (hy.kp hW) hil hbl);have HX:Hid (amF seed info half b=if half.length≠32 then ([],5) else if unE seed half info b≠0 then ([],unE seed half info b) else if (unR seed half info b).length≠32 then ([],2) else (unR seed half info b,0)):=rfl;generalize amF seed info half b=OUT at *;generalize unE seed half info b=UE at *;generalize unR seed half info b=UR at *;obtain ⟨au,nu,cu,rfl⟩:=aac hu;obtain ⟨av,nv,cv,rfl⟩:=aac hv;obtain ⟨ax,cx,rfl,_,_⟩:=hx.shape;obtain ⟨ay,ny,cy,rfl⟩:=aac hy;clear hu hv hx hy;by_cases h32:half.length=32
 ·have HX1:Hid (OUT=if UE≠0 then ([],UE) else if UR.length≠32 then ([],2) else (UR,0)):=by have:=HX.out;rwa [if_neg (by simpa using h32)] at this
  rw[h32] at HUW ⊢;clear HX h32;go_enter Tryz.func120,Tryz.ntmps120;go_wp2_with fail;obtain ⟨w1,hw1⟩:∃ w1,w.alloc (.cells #[.slice ax 32 cx,.slice ay ny cy] 92)=w1:=⟨_,rfl⟩;have K1:Hid (Kp w w1):=by unfold Hid;rw[← hw1];exact (Kp.refl _).alloc _
  rw[hw1];clear hw1;refine (HUW.out w1 K1.out).mono ?_;rintro _ w2 ⟨⟨q,rfl,rq⟩,k2⟩;obtain ⟨a9,c9,rfl,l1,l2⟩:=rq.shape;have R9:=Lib.hid rq;have K2:=Lib.hid (K1.out.trans k2);clear rq k2 HUW;by_cases hu0:UE=0
  ·subst hu0
   have HX2:Hid (OUT=if UR.length≠32 then ([],2) else (UR,0)):=by have:=HX1.out;rwa [if_neg (by simp)] at this
   clear HX1;by_cases hr32:UR.length=32
   ·have HX3:Hid (OUT=(UR,0)):=by have:=HX2.out;rwa [if_neg (by simpa using hr32)] at this
    have hri:(UR.length:Int)=32:=by omega
    have HFIN:Hid ((∃ r,Ending.returned (.tuple #[Value.slice a9 UR.length c9,.int .i64 0])=.returned (.tuple #[r,.int .i64 OUT.2])∧Rd w2 r OUT.1)∧Kp w w2):=by rw[HX3.out];exact ⟨⟨_,rfl,R9.out⟩,K2.out⟩
    have hne:((UR.length:Int)==32)=true:=by rw[hri];rfl
    have hne2:((UR.length:Int) != 32)=false:=by rw[hri];rfl
    clear HX2 HX3 hr32;go_wp2_with fail;go_ret2;exact HFIN.out
   ·have HX3:Hid (OUT=([],2)):=by have:=HX2.out;rwa [if_pos hr32] at this
    have HFIN:Hid ((∃ r,Ending.returned (.tuple #[Value.slice none 0 0,.int .i64 2])=.returned (.tuple #[r,.int .i64 OUT.2])∧Rd w2 r OUT.1)∧Kp w w2):=by rw[HX3.out];exact ⟨⟨_,rfl,aaP _⟩,K2.out⟩
    have hne:((UR.length:Int)==32)=false:=beq_eq_false_iff_ne.2 (by omega);have hne3:¬(UR.length:Int)=32:=by omega
    clear HX2 HX3;go_wp2_with fail;go_ret2;exact HFIN.out
  ·have HX3:Hid (OUT=([],UE)):=by have:=HX1.out;rwa [if_pos hu0] at this
   have HFIN:Hid ((∃ r,Ending.returned (.tuple #[Value.slice none 0 0,.int .i64 UE])=.returned (.tuple #[r,.int .i64 OUT.2])∧Rd w2 r OUT.1)∧Kp w w2):=by rw[HX3.out];exact ⟨⟨_,rfl,aaP _⟩,K2.out⟩
   have hne:(UE==0)=false:=beq_eq_false_iff_ne.2 hu0;clear HX1 HX3;go_wp2_with fail;go_ret2;exact HFIN.out
 ·have HX1:Hid (OUT=([],5)):=by have:=HX.out;rwa [if_pos h32] at this
  have hne:((half.length:Int)==32)=false:=beq_eq_false_iff_ne.2 (by omega);have hne3:¬(half.length:Int)=32:=by omega
  have HFIN:Hid (∀ W,Kp w W→(∃ r,Ending.returned (.tuple #[Value.slice none 0 0,.int .i64 5])=.returned (.tuple #[r,.int .i64 OUT.2])∧Rd W r OUT.1)∧Kp w W):=fun W hW=>by rw[HX1.out];exact ⟨⟨_,rfl,aaP _⟩,hW⟩
  clear HX HUW HX1;go_enter Tryz.func120,Tryz.ntmps120;go_wp2_with fail;go_ret2;exact HFIN.out _ ((Kp.refl _).alloc _)
def alH (l:List Int)(x:Int)(r:Int):Prop:=(∃ k:Nat,r=(k:Int)∧k<l.length∧l.getD k 0=x)∨(r = -1∧x∉l)
theorem akX (arO:Value)(l:List Int)(x:Int)(w:World)(hu:RI w arO l):
  Calls Tryz.prog 132 #[arO,.int .i64 x] w fun e w'=>(∃ r,e=.returned (.int .i64 r)∧alH l x r)∧w=w':=by
 obtain ⟨a,c,rfl,p1,s1⟩:=hu.shape;unfold maxLen at s1;have HU:=Lib.hid hu;have HY:Hid (∀ k:Nat,k<l.length→l.getD k 0=x→alH l x (k:Int)):=fun k hk e=>.inl ⟨k,rfl,hk,e⟩
 have HN:Hid ((∀ k,k<l.length→l.getD k 0≠x)→alH l x (-1)):=fun h=>.inr ⟨rfl,fun hm=>by
  obtain ⟨k,hk,e⟩:=List.getElem_of_mem hm;exact h k hk (by rw[List.getD_eq_getElem?_getD,List.getElem?_eq_getElem hk];exact e)⟩
 generalize alH l x=FI at *;obtain ⟨N,hN⟩:∃ N,l.length=N:=⟨_,rfl⟩;rw[hN] at HU HY HN p1 ⊢;clear hu hN;go_enter Tryz.func132,Tryz.ntmps132;go_wp2_with fail;go_loop [8] (fun i=>∃ k:Nat,k≤N∧i=.int .i64 (k:Int)∧(∀ j,j<k→l.getD j 0≠x)) (fun i=>(N - (intOf i).toNat))
 case atStart=>exact ⟨0,Nat.zero_le _,rfl,fun t h=>by omega⟩
 case round=>
  obtain ⟨k,hk,rfl,hpre⟩:=hrel;by_cases hlt:k<N
  ·obtain ⟨b,off,rfl,_,hc⟩:=HU.out.at k hlt
   have c0:=hc k hlt;have HYK:=Lib.hid (HY.out k hlt);have HPR:=Lib.hid hpre;have i1:IntKind.i64.wrap ((k:Int)+1)=(k:Int)+1:=IntWalk.i64_in _ (by omega);have i3:(k:Int)<(N:Int):=by omega
   by_cases h1:l.getD k 0=x
   ·have HF:=Lib.hid (HYK.out h1)
    have hbe:(x==l.getD k 0)=true:=by rw[h1];exact beq_self_eq_true _
    rw[h1] at c0;clear hc HYK HPR HY HN hpre h1 hbe;go_wp2_with fail;go_ret;exact ⟨⟨_,rfl,HF.out⟩,rfl⟩
   ·have HP:Hid (∀ j,j<k+1→l.getD j 0≠x):=fun j hj=>by
     rcases Nat.lt_or_eq_of_le (Nat.lt_succ_iff.1 hj) with h3 | h3
     ·exact HPR.out j h3
     ·rw[h3];exact h1
    obtain ⟨X,hX⟩:∃ X,l.getD k 0=X:=⟨_,rfl⟩;rw[hX] at c0 h1;have hbe:(x==X)=false:=beq_eq_false_iff_ne.2 fun e=>h1 e.symm
    clear hc HYK HPR HY HN hpre hX;go_wp2_with fail;go_round
    case rel=>exact ⟨k+1,by omega,by first | rfl | (rw[i1];rfl),HP.out⟩
    case measure=>simp[intOf];omega
  ·obtain rfl:k=N:=by omega
   have HF:=Lib.hid (HN.out hpre);have i3:¬(k:Int)<(k:Int):=by omega
   clear HN hpre HY;go_wp2_with fail;go_ret;exact ⟨⟨_,rfl,HF.out⟩,rfl⟩
theorem ahw (arO:Value)(l:List Int)(x:Int)(w:World)(hu:RI w arO l):
  Calls Tryz.prog 94 #[arO,.int .i64 x] w fun e w'=>e=.returned (.bool (decide (x∈l)))∧w=w':=by
 have HI:=Lib.hid (akX arO l x w hu);obtain ⟨a,n,c,rfl⟩:=hu.sl;clear hu;go_enter Tryz.func94,Tryz.ntmps94;go_wp2_with fail;refine HI.out.mono ?_;rintro _ _ ⟨⟨r,rfl,hr⟩,rfl⟩;have HF:Hid (decide (0≤r)=decide (x∈l)):=by
  rcases hr with ⟨k,rfl,hk,e⟩ | ⟨rfl,hn⟩
  ·have:x∈l:=by
    rw[List.getD_eq_getElem?_getD,List.getElem?_eq_getElem hk] at e;exact (show l[k]=x from e)▸List.getElem_mem hk
   exact (decide_eq_true (show 0≤(k:Int) by omega)).trans (decide_eq_true this).symm
  ·exact (show decide (0≤(-1:Int))=false from rfl).trans (decide_eq_false hn).symm
 clear hr HI;go_wp2_with fail;go_ret;exact ⟨by rw[← HF.out] <;> first | rfl | simp,rfl⟩
theorem afZ (arO:Value)(seed:List UInt8)(n:Nod)(p q h:Value)(w:World)(hu:Rd w arO seed)(hn:NIn w n p q h):
  Calls Tryz.prog 46 #[arO,.agg #[.int .i64 n.kind,.int .i64 n.name,p,q,h]] w fun e w'=>aav e (pubE seed=0∧pubR seed=n.pub)∧Kp w w':=by
 have HP:=Lib.hid (fun W (hW:Kp w W)=>acq arO seed W (hu.kp hW));have HBE:=Lib.hid (fun W (hW:Kp w W) (v:Value) (l:List UInt8) (hv:Rd W v l)=>abj v p l n.pub W hv (hn.pub.kp hW));generalize pubE seed=PE at *;generalize pubR seed=PR at *;obtain ⟨au,nu,cu,rfl⟩:=aac hu;obtain ⟨a1,n1,c1,rfl⟩:=aac hn.pub;obtain ⟨a2,n2,c2,rfl⟩:=hn.un.sl;obtain ⟨a3,n3,c3,rfl⟩:=aac hn.hash;obtain ⟨KD,hKD⟩:∃ k,n.kind=k:=⟨_,rfl⟩;obtain ⟨NM,hNM⟩:∃ k,n.name=k:=⟨_,rfl⟩;rw[hKD,hNM];generalize n.pub=NP at *;clear hu hn hKD hNM;go_enter Tryz.func46,Tryz.ntmps46;go_wp2_with fail;obtain ⟨w1,hw1⟩:∃ w1,w.alloc (.cells #[.int .i64 KD,.int .i64 NM,.slice a1 n1 c1,.slice a2 n2 c2,.slice a3 n3 c3] 81)=w1:=⟨_,rfl⟩;have HB:Hid (Bx w1 w.heap.size 81 #[.int .i64 KD,.int .i64 NM,.slice a1 n1 c1,.slice a2 n2 c2,.slice a3 n3 c3]):=by unfold Hid;rw[← hw1];exact Bx.new w _ _
 have K1:Hid (Kp w w1):=by unfold Hid;rw[← hw1];exact (Kp.refl _).alloc _
 rw[hw1];clear hw1;refine (HP.out w1 K1.out).mono ?_;rintro _ w2 ⟨⟨r,rfl,rr,nr⟩,k2⟩;obtain ⟨a9,n9,c9,rfl⟩:=aac rr;have RR:=Lib.hid rr;have K2:=Lib.hid (K1.out.trans k2);have e2:=(HB.out.kp k2).cell 2;simp only[List.getElem?_toArray,List.getElem?_cons_zero,List.getElem?_cons_succ] at e2;clear rr nr k2 HP HB;by_cases h0:PE=0
 ·subst h0
  go_wp2_with fail;refine (HBE.out w2 K2.out _ _ RR.out).mono ?_;rintro _ w3 ⟨rfl,k3⟩;have K3:=Lib.hid (K2.out.trans k3);clear k3 e2 HBE;go_wp2_with fail;go_ret;exact ⟨⟨_,rfl,by simp⟩,K3.out⟩
 ·have hne:(PE==0)=false:=beq_eq_false_iff_ne.2 h0
  have HX:Hid (¬(PE=0∧PR=NP)):=fun h=>h0 h.1
  clear HBE;go_wp2_with fail;go_ret;exact ⟨aav.no HX.out,K2.out⟩
theorem af0 (n:Nod)(x:Int)(p q h:Value)(w:World)(hn:NIn w n p q h):
  Calls Tryz.prog 47 #[.agg #[.int .i64 n.kind,.int .i64 n.name,p,q,h],.int .i64 x] w fun e w'=>aav e (n.kind≠0∧x∉n.un)∧Kp w w':=by
 have HC:=Lib.hid (fun W (hW:Kp w W)=>ahw q n.un x W (hn.un.kp hW));obtain ⟨a1,n1,c1,rfl⟩:=aac hn.pub;obtain ⟨a2,n2,c2,rfl⟩:=hn.un.sl;obtain ⟨a3,n3,c3,rfl⟩:=aac hn.hash;obtain ⟨NM,hNM⟩:∃ k,n.name=k:=⟨_,rfl⟩;obtain ⟨b,hb⟩:∃ b,decide (x∈n.un)=b:=⟨_,rfl⟩;have HM:Hid (b=true↔x∈n.un):=by unfold Hid;rw[← hb,decide_eq_true_iff]
 rw[hb] at HC;rw[hNM];generalize n.kind=KD at *;generalize n.un=UN at *;clear hn hNM hb;go_enter Tryz.func47,Tryz.ntmps47;have HB:Hid (Bx (w.alloc (.cells #[.int .i64 KD,.int .i64 NM,.slice a1 n1 c1,.slice a2 n2 c2,.slice a3 n3 c3] 81)) w.heap.size 81 #[.int .i64 KD,.int .i64 NM,.slice a1 n1 c1,.slice a2 n2 c2,.slice a3 n3 c3]):=Bx.new w _ _;by_cases h0:KD=0
 ·subst h0
  have HX:Hid (¬((0:Int)≠0∧x∉UN)):=fun h=>h.1 rfl
  go_wp2_with fail;go_ret;exact ⟨aav.no HX.out,(Kp.refl _).alloc _⟩
 ·have hne:(KD==0)=false:=beq_eq_false_iff_ne.2 h0
  have hne2:(KD != 0)=true:=bne_iff_ne.2 h0;have K1:Hid (Kp w (w.alloc (.cells #[.int .i64 KD,.int .i64 NM,.slice a1 n1 c1,.slice a2 n2 c2,.slice a3 n3 c3] 81))):=(Kp.refl _).alloc _;go_wp2_with fail;refine (HC.out _ K1.out).mono ?_;rintro _ _ ⟨rfl,rfl⟩;have HX:Hid ((!b)=true↔KD≠0∧x∉UN):=by
   unfold Hid;rw[← not_congr HM.out];cases b <;> simp[h0]
  go_wp2_with fail;go_ret;exact ⟨⟨_,rfl,HX.out⟩,K1.out⟩
theorem ael (u:Value)(t:List Nod)(w:World)(hu:NL w u t)(h0:0<t.length)(hl:t.length≤100000)(hb:∀ i,i<t.length→(ats t i).pub.length≤1000∧(ats t i).un.length≤100000∧(ats t i).hash.length≤1000):
  Calls Tryz.prog 141 #[u] w fun e w'=>(∃ v P U H,e=.returned v∧NX 81 3 w' w.heap.size v t P U H (fun _=>True))∧Kp w w':=by
 have HC:=Lib.hid (aid u t w hu h0 (by omega));have HCP:=Lib.hid (fun (v:Value) (l:List UInt8) (W:World) (h:Rd W v l) (hl:l.length≤1000)=>agB v l W h (by omega));have HCI:=Lib.hid (fun (v:Value) (l:List Int) (W:World) (h:RI W v l) (hl:l.length≤100000)=>amE v l W h (by omega));have HU:=Lib.hid hu;obtain ⟨a,c,rfl,p1,s1⟩:=hu.shape;have HB:=Lib.hid hb;have HSAME:=Lib.hid (fun i hi=>an8 t i hi);obtain ⟨N,hN⟩:∃ N,t.length=N:=⟨_,rfl⟩;have HN:=Lib.hid hN;rw[hN] at HC HU HB h0 hl p1 ⊢;have hlI:(N:Int)≤100000:=by omega
 have HP1:=Lib.hid (And.intro p1 s1);clear hu hb hN hl p1 s1;go_enter Tryz.func141,Tryz.ntmps141;go_wp2_with fail;refine HC.out.mono ?_;rintro _ w1 ⟨⟨v1,us,rfl,r1,r2,r3⟩,k1⟩;obtain ⟨P,U,H,r4⟩:=aqI (R:=fun i p u h=>(∀ f,f<5→us[i*5+f]?=(nodC (ats t i) p u h)[f]?)∧NIn w (ats t i) p u h) r3;obtain ⟨g,c1,rfl,hg0,hg1⟩:∃ g c1,v1=.slice (some ⟨g,0,none⟩) N c1∧w.heap.size≤g∧g<w1.heap.size∧N≤c1:=by
  rcases id r1.2 with ⟨_,e⟩ | ⟨g,cap,cur,e,e1,e2,e3,_⟩
  ·omega
  ·exact ⟨g,cap,e,e1,(Array.getElem?_eq_some_iff.1 e2).1,e3⟩
 have hstart:Hid (∃ P U H,NX 81 3 w1 w.heap.size (.slice (some ⟨g,0,none⟩) N c1) t P U H (fun j=>j<0)):=by
  refine ⟨P,U,H,⟨us,by rw[HN.out];exact r1,r2,fun i hi=>?_⟩,fun i hi=>?_,fun i hi=>?_,fun i hi hs=>absurd hs (Nat.not_lt_zero _),fun i hi hs=>absurd hs (Nat.not_lt_zero _),fun i j hi hj hs=>absurd hs (Nat.not_lt_zero _)⟩
  ·rw[HN.out] at hi;exact (r4 i hi).1
  ·rw[HN.out] at hi;exact (r4 i hi).2.kp k1
  ·rw[HN.out] at hi
   have h4:=(r4 i hi).2;exact ⟨h4.pub.apart (fun g' hg'=>by cases hg';exact hg0),h4.un.apart (fun g' hg'=>by cases hg';exact hg0),h4.hash.apart (fun g' hg'=>by cases hg';exact hg0)⟩
 have HK1:=Lib.hid k1;have HG:=Lib.hid (And.intro hg0 hg1.1);have hNc:=hg1.2;clear r1 r2 r3 r4 k1 HC hg0 hg1 P U H us;go_wp2_with fail;go_loopw[10] (fun x wr=>∃ k:Nat,k≤N∧x=.int .i64 (k:Int)∧(∃ P U H,NX 81 3 wr w.heap.size (.slice (some ⟨g,0,none⟩) N c1) t P U H (fun j=>j<k))∧Kp w wr∧g<wr.heap.size) (fun x _=>(N - (intOf x).toNat))
 case atStart=>exact ⟨0,Nat.zero_le _,rfl,hstart.out,HK1.out,HG.out.2⟩
 case round=>
  obtain ⟨k,hk,rfl,⟨P,U,H,hx⟩,hkp,hgr⟩:=hrel;by_cases hlt:k<N
  ·obtain ⟨b,off,rfl,_,hcc⟩:=HU.out.at k hlt
   obtain ⟨p,q,h,hn⟩:=hcc k hlt;have hn':=hn.kp hkp;have d0:=hn'.kind;have d1:=hn'.name;have d2:=hn'.pubC;have d3:=hn'.unC;have d4:=hn'.hashC;obtain ⟨b1,b2,b3⟩:=HB.out k hlt;have HIN:=Lib.hid hn.2;have HBB:=Lib.hid (And.intro b1 (And.intro b2 b3));obtain ⟨xp,np,xcp,rfl⟩:=aac hn'.2.pub;obtain ⟨xq,nq,xcq,rfl⟩:=hn'.2.un.sl;obtain ⟨xh,nh,xch,rfl⟩:=aac hn'.2.hash;have HX:=Lib.hid hx;have HKP:=Lib.hid (And.intro hkp hgr);have i1:IntKind.i64.wrap ((k:Int)+1)=(k:Int)+1:=IntWalk.i64_in _ (by omega);have i2:(k:Int)<(N:Int):=by omega
   clear hcc hn hn' hx hkp hgr b1 b2 b3;go_wp2_with fail;refine (HCP.out (.slice xp np xcp) _ _ (HIN.out.pub.kp (HKP.out.1.alloc _)) HBB.out.1).mono ?_;rintro _ w3 ⟨p',rfl,o3,k3⟩;have HNX1:Hid (∃ P U H,NX 81 3 (w3.setCells g (k*5+2) [p']) w.heap.size (.slice (some ⟨g,0,none⟩) N c1) t P U H (fun j=>j<k)):=⟨_,_,_,
    HX.out.clonePub (((Kp.refl wr).alloc _).trans k3) (by rw[HN.out];exact hlt) (Nat.lt_irrefl k) o3 (by simp) HKP.out.2⟩
   have HTH1:Hid (w3.there g (k*5+2) 1):=(HX.out.kp (((Kp.refl wr).alloc _).trans k3)).there k (by rw[HN.out];exact hlt) 2 (by omega);have hbx:=(Bx.new wr 81 #[.int .i64 (ats t k).kind,.int .i64 (ats t k).name,.slice xp np xcp,.slice xq nq xcq,.slice xh nh xch]).kp k3;have HBX1:Hid (Bx (w3.setCells g (k*5+2) [p']) wr.heap.size 81 #[.int .i64 (ats t k).kind,.int .i64 (ats t k).name,.slice xp np xcp,.slice xq nq xcq,.slice xh nh xch]):=hbx.grown (aa0 w3 g 0 _ _) (fun e=>by have:=HKP.out.2;simp at e;omega);have HKP1:Hid (Kp w (w3.setCells g (k*5+2) [p'])):=(HKP.out.1.trans (((Kp.refl wr).alloc _).trans k3)).setCells HG.out.1 _ _;have HSZ1:Hid (wr.heap.size<(w3.setCells g (k*5+2) [p']).heap.size):=Nat.lt_of_lt_of_le (Array.getElem?_eq_some_iff.1 hbx).1 (aa0 w3 g 0 _ _).size;obtain ⟨yp,mp,ycp,rfl⟩:=aac o3.rd;clear o3 k3 hbx;go_wp2_with (refine aa1 rfl rfl 24 (.tmp 21) (.tmp 19) rfl g (k*5+2) (.slice yp mp ycp) rfl rfl rfl HTH1.out agS ?_;intro W4 hW4;rw[← hW4] at HNX1 HBX1 HKP1 HSZ1;have c3:=HBX1.out.cell 3;have c4:=HBX1.out.cell 4;clear hW4)
   refine (HCI.out (.slice xq nq xcq) _ W4 (HIN.out.un.kp HKP1.out) HBB.out.2.1).mono ?_;rintro _ w5 ⟨u',rfl,o5,k5⟩;obtain ⟨P1,U1,H1,hx1⟩:=HNX1.out;have hgW:g<W4.heap.size:=Nat.lt_trans HKP.out.2 HSZ1.out;have HNX2:Hid (∃ P U H,NX 81 3 (w5.setCells g (k*5+3) [u']) w.heap.size (.slice (some ⟨g,0,none⟩) N c1) t P U H (fun j=>j<k+1)):=⟨_,_,_,hx1.cloneUn k5 (by rw[HN.out];exact hlt) (fun j hj hjk=>by omega) o5 (Nat.le_refl _) hgW HKP1.out.size⟩;have HTH2:Hid (w5.there g (k*5+3) 1):=(hx1.kp k5).there k (by rw[HN.out];exact hlt) 3 (by omega);have hbx:=HBX1.out.kp k5;have HBX2:Hid (Bx (w5.setCells g (k*5+3) [u']) wr.heap.size 81 #[.int .i64 (ats t k).kind,.int .i64 (ats t k).name,.slice xp np xcp,.slice xq nq xcq,.slice xh nh xch]):=hbx.grown (aa0 w5 g 0 _ _) (fun e=>by have:=HKP.out.2;simp at e;omega);have HKP2:Hid (Kp w (w5.setCells g (k*5+3) [u'])):=(HKP1.out.trans k5).setCells HG.out.1 _ _;have HSZ2:Hid (wr.heap.size<(w5.setCells g (k*5+3) [u']).heap.size):=Nat.lt_of_lt_of_le (Array.getElem?_eq_some_iff.1 hbx).1 (aa0 w5 g 0 _ _).size;obtain ⟨yq,mq,ycq,rfl⟩:=o5.ri.sl;clear o5 k5 hbx hx1 hgW HNX1 HBX1 HKP1 HSZ1 HTH1 c3 c4;go_wp2_with (refine aa1 rfl rfl 34 (.tmp 28) (.tmp 26) rfl g (k*5+3) (.slice yq mq ycq) rfl rfl rfl HTH2.out ah5 ?_;intro W6 hW6;rw[← hW6] at HNX2 HBX2 HKP2 HSZ2;have c4:=HBX2.out.cell 4;clear hW6)
   refine (HCP.out (.slice xh nh xch) _ W6 (HIN.out.hash.kp HKP2.out) HBB.out.2.2).mono ?_;rintro _ w7 ⟨h',rfl,o7,k7⟩;obtain ⟨P2,U2,H2,hx2⟩:=HNX2.out;have hgW:g<W6.heap.size:=Nat.lt_trans HKP.out.2 HSZ2.out;have HNX3:Hid (∃ P U H,NX 81 3 (w7.setCells g (k*5+4) [h']) w.heap.size (.slice (some ⟨g,0,none⟩) N c1) t P U H (fun j=>j<k+1)):=⟨_,_,_,hx2.cloneHash k7 (by rw[HN.out];exact hlt) o7 (Nat.le_refl _) hgW⟩;have HTH3:Hid (w7.there g (k*5+4) 1):=(hx2.kp k7).there k (by rw[HN.out];exact hlt) 4 (by omega);have HKP3:Hid (Kp w (w7.setCells g (k*5+4) [h'])):=(HKP2.out.trans k7).setCells HG.out.1 _ _;have HSZ3:Hid (g<(w7.setCells g (k*5+4) [h']).heap.size):=Nat.lt_of_lt_of_le hgW (Nat.le_trans k7.size (aa0 w7 g 0 _ _).size);obtain ⟨yh,mh,ych,rfl⟩:=aac o7.rd;clear o7 k7 hx2 hgW HNX2 HBX2 HKP2 HSZ2 HTH2 c4;go_wp2_with (refine aa1 rfl rfl 24 (.tmp 35) (.tmp 33) rfl g (k*5+4) (.slice yh mh ych) rfl rfl rfl HTH3.out agS ?_;intro W8 hW8;rw[← hW8] at HNX3 HKP3 HSZ3;clear hW8)
   go_roundw
   case rel=>exact ⟨k+1,by omega,by go_num,HNX3.out,HKP3.out,HSZ3.out⟩
   case measure=>simp[intOf];omega
  ·obtain rfl:k=N:=by omega
   have HX:=Lib.hid hx;have HKP:=Lib.hid hkp;have i2:¬(k:Int)<(k:Int):=by omega
   have HNN:=Lib.hid HN.out;clear hx hkp hgr;go_wp2_with fail;go_ret;exact ⟨⟨_,rfl,P,U,H,HX.out.weak (fun i hi _=>by rw[HN.out] at hi;exact hi)⟩,HKP.out⟩
theorem ahf (x y x' y':Value)(a b:Se)(w:World)(h1:Rd w x a.half)(h2:Rd w y a.b)(h3:Rd w x' b.half)(h4:Rd w y' b.b):
  Calls Tryz.prog 97 #[.agg #[x,y],.agg #[x',y']] w fun e w'=>aav e (a=b)∧Kp w w':=by
 have H1:=Lib.hid (fun W (hW:Kp w W)=>abj x x' a.half b.half W (h1.kp hW) (h3.kp hW));have H2:Hid (∀ W,Kp w W→Calls Tryz.prog 52 #[y,y'] W fun e w'=>aav e (a.b=b.b)∧Kp W w'):=fun W hW=>(abj y y' a.b b.b W (h2.kp hW) (h4.kp hW)).mono fun e w' h=>⟨⟨_,h.1,decide_eq_true_iff⟩,h.2⟩
 have HN1:Hid (a.half≠b.half→¬a=b):=fun h e=>h (by rw[e])
 have HN2:Hid (¬a.b=b.b→¬a=b):=fun h e=>h (by rw[e])
 have HY:Hid (a.half=b.half→a.b=b.b→a=b):=Se.ext';obtain ⟨a1,n1,c1,rfl⟩:=aac h1;obtain ⟨a3,n3,c3,rfl⟩:=aac h3;obtain ⟨a2,n2,c2,rfl⟩:=aac h2;obtain ⟨a4,n4,c4,rfl⟩:=aac h4;generalize (a=b)=P at *;generalize (a.b=b.b)=P2 at *;generalize a.half=L1 at *;generalize b.half=L2 at *;clear h1 h2 h3 h4;by_cases q:L1=L2
 ·rw[decide_eq_true q] at H1
  have HY1:=Lib.hid (HY.out q);clear HN1 HY q;go_enter Tryz.func97,Tryz.ntmps97;go_wp2_with fail;obtain ⟨w1,hw1⟩:∃ w1,(w.alloc (.cells #[.slice a1 n1 c1,.slice a2 n2 c2] 92)).alloc (.cells #[.slice a3 n3 c3,.slice a4 n4 c4] 92)=w1:=⟨_,rfl⟩;have hb:Bx w1 w.heap.size 92 #[.slice a1 n1 c1,.slice a2 n2 c2]:=by rw[← hw1];exact (Bx.new w _ _).kp ((Kp.refl _).alloc _)
  have hb2:Bx w1 (w.heap.size+1) 92 #[.slice a3 n3 c3,.slice a4 n4 c4]:=by
   rw[← hw1];have:=Bx.new (w.alloc (.cells #[.slice a1 n1 c1,.slice a2 n2 c2] 92)) 92 #[.slice a3 n3 c3,.slice a4 n4 c4];rwa [World.size_alloc] at this
  have K1:Hid (Kp w w1):=by unfold Hid;rw[← hw1];exact ((Kp.refl _).alloc _).alloc _
  have HBB:=Lib.hid (And.intro hb hb2);rw[hw1];clear hb hb2 hw1;refine (H1.out w1 K1.out).mono ?_;rintro _ w2 ⟨rfl,k2⟩;have K2:=Lib.hid (K1.out.trans k2);have e1:=(HBB.out.1.kp k2).cell 1;have e2:=(HBB.out.2.kp k2).cell 1;simp only[List.getElem?_toArray,List.getElem?_cons_zero,List.getElem?_cons_succ] at e1 e2;clear k2 H1 HBB;go_wp2_with fail;refine (H2.out w2 K2.out).mono ?_;rintro _ w3 ⟨⟨bb,rfl,hb⟩,k3⟩;have HB:Hid (bb=true↔P):=⟨fun h=>HY1.out (hb.1 h),fun h=>hb.2 (Classical.not_not.1 fun hn=>HN2.out hn h)⟩;have K3:=Lib.hid (K2.out.trans k3);clear hb k3 HY1 HN2 e1 e2 H2;go_wp2_with fail;go_ret;exact ⟨⟨bb,rfl,HB.out⟩,K3.out⟩
 ·rw[decide_eq_false q] at H1
  have HX:=Lib.hid (HN1.out q);clear HN1 HN2 HY H2 q;go_enter Tryz.func97,Tryz.ntmps97;go_wp2_with fail;obtain ⟨w1,hw1⟩:∃ w1,(w.alloc (.cells #[.slice a1 n1 c1,.slice a2 n2 c2] 92)).alloc (.cells #[.slice a3 n3 c3,.slice a4 n4 c4] 92)=w1:=⟨_,rfl⟩;have K1:Hid (Kp w w1):=by unfold Hid;rw[← hw1];exact ((Kp.refl _).alloc _).alloc _
  rw[hw1];clear hw1;refine (H1.out w1 K1.out).mono ?_;rintro _ w2 ⟨rfl,k2⟩;have K2:=Lib.hid (K1.out.trans k2);clear k2 H1;go_wp2_with fail;go_ret;exact ⟨aav.no HX.out,K2.out⟩
theorem ae4 (arO v:Value)(t s:List Se)(w:World)(hu:EL w arO t)(hv:EL w v s):
  Calls Tryz.prog 96 #[arO,v,.func (.func 97) #[] #[]] w fun e w'=>aav e (t=s)∧Kp w w':=by
 obtain ⟨a1,c1,rfl,p1,s1⟩:=SE.shape hu;obtain ⟨a2,c2,rfl,p2,s2⟩:=SE.shape hv;unfold maxLen at s1 s2;by_cases hlen:t.length=s.length
 ·have HEQ:Hid (∀ k,k<t.length→¬seAt t k=seAt s k→¬t=s):=fun k hk hne h=>hne (by rw[h])
  have HALL:Hid ((∀ k,k<t.length→seAt t k=seAt s k)→t=s):=fun h=>arC hlen h
  have HU:=Lib.hid hu;have HV:=Lib.hid hv;rw[← hlen] at HV p2 ⊢;obtain ⟨N,hN⟩:∃ N,t.length=N:=⟨_,rfl⟩;have HN:=Lib.hid hN;have HN2:Hid (s.length=N):=hlen.symm.trans hN;rw[hN] at HU HV p1 p2 HEQ HALL ⊢;generalize (t=s)=EQ at *;have HS:=Lib.hid (And.intro s1 s2);clear hu hv hlen hN s1 s2;go_enter Tryz.func96,Tryz.ntmps96;go_wp2_with fail;go_loopw[17] (fun i wr=>∃ k:Nat,k≤N∧i=.int .i64 (k:Int)∧(∀ j,j<k→seAt t j=seAt s j)∧Kp w wr) (fun i _=>(N - (intOf i).toNat))
  case atStart=>exact ⟨0,Nat.zero_le _,rfl,fun t h=>by omega,Kp.refl _⟩
  case round=>
   obtain ⟨k,hk,rfl,hpre,hkp⟩:=hrel;by_cases hlt:k<N
   ·obtain ⟨g1,o1,d1,x1,y1,q1,_,hc1⟩:=EL.nodeK (i:=k) HU.out (by rw[HN.out];exact hlt)
    obtain ⟨g2,o2,d2,x2,y2,q2,_,hc2⟩:=EL.nodeK (i:=k) HV.out (by rw[HN2.out];exact hlt);rw[HN.out] at q1;rw[HN2.out] at q2;simp only[Value.slice.injEq] at q1 q2;obtain ⟨rfl,_,rfl⟩:=q1;obtain ⟨rfl,_,rfl⟩:=q2;obtain ⟨c10,c11,m3,m4⟩:=hc1 wr hkp;obtain ⟨xa,na,ca,rfl⟩:=aac m3;obtain ⟨xb,nb,cb,rfl⟩:=aac m4;obtain ⟨_,_,p3,p4⟩:=hc2 wr hkp;obtain ⟨xc,nc,cc,rfl⟩:=aac p3;obtain ⟨xd,nd',cd,rfl⟩:=aac p4;obtain ⟨c20,c21,_,_⟩:=hc2 (wr.alloc (.cells #[.slice xa na ca,.slice xb nb cb] 92)) (hkp.alloc _);have HC:=Lib.hid (fun W (hW:Kp wr W)=>ahf _ _ _ _ (seAt t k) (seAt s k) W (m3.kp hW) (m4.kp hW) (p3.kp hW) (p4.kp hW));have HEQ2:=HEQ.out k hlt;have HPRE:Hid (seAt t k=seAt s k→∀ j,j<k+1→seAt t j=seAt s j):=fun he j hj=>by
     rcases Nat.lt_or_eq_of_le (Nat.lt_succ_iff.1 hj) with h3 | h3
     ·exact hpre j h3
     ·rw[h3];exact he
    have i1:IntKind.i64.wrap ((k:Int)+1)=(k:Int)+1:=IntWalk.i64_in _ (by have:=HS.out;omega);have i2:(k:Int)<(N:Int):=by omega
    have KK:=Lib.hid hkp;clear hc1 hc2 HALL HEQ hpre hkp m3 m4 p3 p4;generalize (seAt t k=seAt s k)=PE at *;go_wp2_with fail;refine (HC.out _ (((Kp.refl _).alloc _).alloc _)).mono ?_;rintro _ w9 ⟨⟨bb,rfl,hb⟩,k9⟩;have K9:=Lib.hid (KK.out.trans ((((Kp.refl _).alloc _).alloc _).trans k9));cases bb
    ·have HP2:=Lib.hid (HEQ2 fun h=>by cases hb.2 h)
     clear HPRE HEQ2 hb k9 HC c10 c11 c20 c21;go_wp2_with fail;go_ret;exact ⟨aav.no HP2.out,K9.out⟩
    ·have HP2:=Lib.hid (HPRE.out (hb.1 rfl))
     clear HPRE HEQ2 hb k9 HC c10 c11 c20 c21;go_wp2_with fail;go_roundw
     case rel=>exact ⟨k+1,by omega,by first | rfl | (rw[i1];rfl),HP2.out,K9.out⟩
     case measure=>simp[intOf];omega
   ·obtain rfl:k=N:=by omega
    have HB:=Lib.hid (HALL.out hpre);have KK:=Lib.hid hkp;have i2:¬(k:Int)<(k:Int):=by omega
    clear HALL HEQ hpre hkp;go_wp2_with fail;go_ret;exact ⟨aav.yes HB.out,KK.out⟩
 ·have hne:¬(t.length:Int)=(s.length:Int):=by omega
  have hne2:((t.length:Int) != (s.length:Int))=true:=bne_iff_ne.2 hne;have HN:Hid (¬t=s):=fun h=>hlen (by rw[h])
  clear hu hv hlen s1 s2;go_enter Tryz.func96,Tryz.ntmps96;go_wp2_with fail;go_ret;exact ⟨aav.no HN.out,Kp.refl _⟩
theorem af1 (x y x' y':Value)(a b:St)(w:World)(h1:Rd w x a.pub)(h2:EL w y a.fors)(h3:Rd w x' b.pub)(h4:EL w y' b.fors):
  Calls Tryz.prog 54 #[.agg #[x,y],.agg #[x',y']] w fun e w'=>aav e (a=b)∧Kp w w':=by
 have H1:=Lib.hid (fun W (hW:Kp w W)=>abj x x' a.pub b.pub W (h1.kp hW) (h3.kp hW));have H2:Hid (∀ W,Kp w W→Calls Tryz.prog 96 #[y,y',.func (.func 97) #[] #[]] W fun e w'=>aav e (a.fors=b.fors)∧Kp W w'):=fun W hW=>ae4 y y' a.fors b.fors W (arM.kp h2 hW) (arM.kp h4 hW)
 have HN1:Hid (a.pub≠b.pub→¬a=b):=fun h e=>h (by rw[e])
 have HN2:Hid (¬a.fors=b.fors→¬a=b):=fun h e=>h (by rw[e])
 have HY:Hid (a.pub=b.pub→a.fors=b.fors→a=b):=St.ext';obtain ⟨a1,n1,c1,rfl⟩:=aac h1;obtain ⟨a3,n3,c3,rfl⟩:=aac h3;obtain ⟨a2,n2,c2,rfl⟩:=SE.sl h2;obtain ⟨a4,n4,c4,rfl⟩:=SE.sl h4;generalize (a=b)=P at *;generalize (a.fors=b.fors)=P2 at *;generalize a.pub=L1 at *;generalize b.pub=L2 at *;clear h1 h2 h3 h4;by_cases q:L1=L2
 ·rw[decide_eq_true q] at H1
  have HY1:=Lib.hid (HY.out q);clear HN1 HY q;go_enter Tryz.func54,Tryz.ntmps54;go_wp2_with fail;obtain ⟨w1,hw1⟩:∃ w1,(w.alloc (.cells #[.slice a1 n1 c1,.slice a2 n2 c2] 74)).alloc (.cells #[.slice a3 n3 c3,.slice a4 n4 c4] 74)=w1:=⟨_,rfl⟩;have hb:Bx w1 w.heap.size 74 #[.slice a1 n1 c1,.slice a2 n2 c2]:=by rw[← hw1];exact (Bx.new w _ _).kp ((Kp.refl _).alloc _)
  have hb2:Bx w1 (w.heap.size+1) 74 #[.slice a3 n3 c3,.slice a4 n4 c4]:=by
   rw[← hw1];have:=Bx.new (w.alloc (.cells #[.slice a1 n1 c1,.slice a2 n2 c2] 74)) 74 #[.slice a3 n3 c3,.slice a4 n4 c4];rwa [World.size_alloc] at this
  have K1:Hid (Kp w w1):=by unfold Hid;rw[← hw1];exact ((Kp.refl _).alloc _).alloc _
  have HBB:=Lib.hid (And.intro hb hb2);rw[hw1];clear hb hb2 hw1;refine (H1.out w1 K1.out).mono ?_;rintro _ w2 ⟨rfl,k2⟩;have K2:=Lib.hid (K1.out.trans k2);have e1:=(HBB.out.1.kp k2).cell 1;have e2:=(HBB.out.2.kp k2).cell 1;simp only[List.getElem?_toArray,List.getElem?_cons_zero,List.getElem?_cons_succ] at e1 e2;clear k2 H1 HBB;go_wp2_with fail;refine (H2.out w2 K2.out).mono ?_;rintro _ w3 ⟨⟨bb,rfl,hb⟩,k3⟩;have HB:Hid (bb=true↔P):=⟨fun h=>HY1.out (hb.1 h),fun h=>hb.2 (Classical.not_not.1 fun hn=>HN2.out hn h)⟩;have K3:=Lib.hid (K2.out.trans k3);clear hb k3 HY1 HN2 e1 e2 H2;go_wp2_with fail;go_ret;exact ⟨⟨bb,rfl,HB.out⟩,K3.out⟩
 ·rw[decide_eq_false q] at H1
  have HX:=Lib.hid (HN1.out q);clear HN1 HN2 HY H2 q;go_enter Tryz.func54,Tryz.ntmps54;go_wp2_with fail;obtain ⟨w1,hw1⟩:∃ w1,(w.alloc (.cells #[.slice a1 n1 c1,.slice a2 n2 c2] 74)).alloc (.cells #[.slice a3 n3 c3,.slice a4 n4 c4] 74)=w1:=⟨_,rfl⟩;have K1:Hid (Kp w w1):=by unfold Hid;rw[← hw1];exact ((Kp.refl _).alloc _).alloc _
  rw[hw1];clear hw1;refine (H1.out w1 K1.out).mono ?_;rintro _ w2 ⟨rfl,k2⟩;have K2:=Lib.hid (K1.out.trans k2);clear k2 H1;go_wp2_with fail;go_ret;exact ⟨aav.no HX.out,K2.out⟩
theorem ae5 (arO v:Value)(t s:List St)(w:World)(hu:TL11 w arO t)(hv:TL11 w v s):
  Calls Tryz.prog 53 #[arO,v,.func (.func 54) #[] #[]] w fun e w'=>aav e (t=s)∧Kp w w':=by
 obtain ⟨a1,c1,rfl,p1,s1⟩:=SE.shape hu;obtain ⟨a2,c2,rfl,p2,s2⟩:=SE.shape hv;unfold maxLen at s1 s2;by_cases hlen:t.length=s.length
 ·have HEQ:Hid (∀ k,k<t.length→¬stAt t k=stAt s k→¬t=s):=fun k hk hne h=>hne (by rw[h])
  have HALL:Hid ((∀ k,k<t.length→stAt t k=stAt s k)→t=s):=fun h=>arB hlen h
  have HU:=Lib.hid hu;have HV:=Lib.hid hv;rw[← hlen] at HV p2 ⊢;obtain ⟨N,hN⟩:∃ N,t.length=N:=⟨_,rfl⟩;have HN:=Lib.hid hN;have HN2:Hid (s.length=N):=hlen.symm.trans hN;rw[hN] at HU HV p1 p2 HEQ HALL ⊢;generalize (t=s)=EQ at *;have HS:=Lib.hid (And.intro s1 s2);clear hu hv hlen hN s1 s2;go_enter Tryz.func53,Tryz.ntmps53;go_wp2_with fail;go_loopw[17] (fun i wr=>∃ k:Nat,k≤N∧i=.int .i64 (k:Int)∧(∀ j,j<k→stAt t j=stAt s j)∧Kp w wr) (fun i _=>(N - (intOf i).toNat))
  case atStart=>exact ⟨0,Nat.zero_le _,rfl,fun t h=>by omega,Kp.refl _⟩
  case round=>
   obtain ⟨k,hk,rfl,hpre,hkp⟩:=hrel;by_cases hlt:k<N
   ·obtain ⟨g1,o1,d1,x1,y1,q1,_,hc1⟩:=TL11.nodeK (i:=k) HU.out (by rw[HN.out];exact hlt)
    obtain ⟨g2,o2,d2,x2,y2,q2,_,hc2⟩:=TL11.nodeK (i:=k) HV.out (by rw[HN2.out];exact hlt);rw[HN.out] at q1;rw[HN2.out] at q2;simp only[Value.slice.injEq] at q1 q2;obtain ⟨rfl,_,rfl⟩:=q1;obtain ⟨rfl,_,rfl⟩:=q2;obtain ⟨c10,c11,m3,m4⟩:=hc1 wr hkp;obtain ⟨xa,na,ca,rfl⟩:=aac m3;obtain ⟨xb,nb,cb,rfl⟩:=SE.sl m4;obtain ⟨_,_,p3,p4⟩:=hc2 wr hkp;obtain ⟨xc,nc,cc,rfl⟩:=aac p3;obtain ⟨xd,nd',cd,rfl⟩:=SE.sl p4;obtain ⟨c20,c21,_,_⟩:=hc2 (wr.alloc (.cells #[.slice xa na ca,.slice xb nb cb] 74)) (hkp.alloc _);have HC:=Lib.hid (fun W (hW:Kp wr W)=>af1 _ _ _ _ (stAt t k) (stAt s k) W (m3.kp hW) (arM.kp m4 hW) (p3.kp hW) (arM.kp p4 hW));have HEQ2:=HEQ.out k hlt;have HPRE:Hid (stAt t k=stAt s k→∀ j,j<k+1→stAt t j=stAt s j):=fun he j hj=>by
     rcases Nat.lt_or_eq_of_le (Nat.lt_succ_iff.1 hj) with h3 | h3
     ·exact hpre j h3
     ·rw[h3];exact he
    have i1:IntKind.i64.wrap ((k:Int)+1)=(k:Int)+1:=IntWalk.i64_in _ (by have:=HS.out;omega);have i2:(k:Int)<(N:Int):=by omega
    have KK:=Lib.hid hkp;clear hc1 hc2 HALL HEQ hpre hkp m3 m4 p3 p4;generalize (stAt t k=stAt s k)=PE at *;go_wp2_with fail;refine (HC.out _ (((Kp.refl _).alloc _).alloc _)).mono ?_;rintro _ w9 ⟨⟨bb,rfl,hb⟩,k9⟩;have K9:=Lib.hid (KK.out.trans ((((Kp.refl _).alloc _).alloc _).trans k9));cases bb
    ·have HP2:=Lib.hid (HEQ2 fun h=>by cases hb.2 h)
     clear HPRE HEQ2 hb k9 HC c10 c11 c20 c21;go_wp2_with fail;go_ret;exact ⟨aav.no HP2.out,K9.out⟩
    ·have HP2:=Lib.hid (HPRE.out (hb.1 rfl))
     clear HPRE HEQ2 hb k9 HC c10 c11 c20 c21;go_wp2_with fail;go_roundw
     case rel=>exact ⟨k+1,by omega,by first | rfl | (rw[i1];rfl),HP2.out,K9.out⟩
     case measure=>simp[intOf];omega
   ·obtain rfl:k=N:=by omega
    have HB:=Lib.hid (HALL.out hpre);have KK:=Lib.hid hkp;have i2:¬(k:Int)<(k:Int):=by omega
    clear HALL HEQ hpre hkp;go_wp2_with fail;go_ret;exact ⟨aav.yes HB.out,KK.out⟩
 ·have hne:¬(t.length:Int)=(s.length:Int):=by omega
  have hne2:((t.length:Int) != (s.length:Int))=true:=bne_iff_ne.2 hne;have HN:Hid (¬t=s):=fun h=>hlen (by rw[h])
  clear hu hv hlen s1 s2;go_enter Tryz.func53,Tryz.ntmps53;go_wp2_with fail;go_ret;exact ⟨aav.no HN.out,Kp.refl _⟩
theorem akc (x y x' y':Value)(a b:Pa)(w:World)(h1:Rd w x a.pub)(h2:TL11 w y a.step)(h3:Rd w x' b.pub)(h4:TL11 w y' b.step):
  Calls Tryz.prog 18 #[.agg #[x,y],.agg #[x',y']] w fun e w'=>aav e (a=b)∧Kp w w':=by
 have H1:=Lib.hid (fun W (hW:Kp w W)=>abj x x' a.pub b.pub W (h1.kp hW) (h3.kp hW));have H2:Hid (∀ W,Kp w W→Calls Tryz.prog 53 #[y,y',.func (.func 54) #[] #[]] W fun e w'=>aav e (a.step=b.step)∧Kp W w'):=fun W hW=>ae5 y y' a.step b.step W (arM.kp h2 hW) (arM.kp h4 hW)
 have HN1:Hid (a.pub≠b.pub→¬a=b):=fun h e=>h (by rw[e])
 have HN2:Hid (¬a.step=b.step→¬a=b):=fun h e=>h (by rw[e])
 have HY:Hid (a.pub=b.pub→a.step=b.step→a=b):=Pa.ext';obtain ⟨a1,n1,c1,rfl⟩:=aac h1;obtain ⟨a3,n3,c3,rfl⟩:=aac h3;obtain ⟨a2,n2,c2,rfl⟩:=SE.sl h2;obtain ⟨a4,n4,c4,rfl⟩:=SE.sl h4;generalize (a=b)=P at *;generalize (a.step=b.step)=P2 at *;generalize a.pub=L1 at *;generalize b.pub=L2 at *;clear h1 h2 h3 h4;by_cases q:L1=L2
 ·rw[decide_eq_true q] at H1
  have HY1:=Lib.hid (HY.out q);clear HN1 HY q;go_enter Tryz.func18,Tryz.ntmps18;go_wp2_with fail;obtain ⟨w1,hw1⟩:∃ w1,(w.alloc (.cells #[.slice a1 n1 c1,.slice a2 n2 c2] 27)).alloc (.cells #[.slice a3 n3 c3,.slice a4 n4 c4] 27)=w1:=⟨_,rfl⟩;have hb:Bx w1 w.heap.size 27 #[.slice a1 n1 c1,.slice a2 n2 c2]:=by rw[← hw1];exact (Bx.new w _ _).kp ((Kp.refl _).alloc _)
  have hb2:Bx w1 (w.heap.size+1) 27 #[.slice a3 n3 c3,.slice a4 n4 c4]:=by
   rw[← hw1];have:=Bx.new (w.alloc (.cells #[.slice a1 n1 c1,.slice a2 n2 c2] 27)) 27 #[.slice a3 n3 c3,.slice a4 n4 c4];rwa [World.size_alloc] at this
  have K1:Hid (Kp w w1):=by unfold Hid;rw[← hw1];exact ((Kp.refl _).alloc _).alloc _
  have HBB:=Lib.hid (And.intro hb hb2);rw[hw1];clear hb hb2 hw1;refine (H1.out w1 K1.out).mono ?_;rintro _ w2 ⟨rfl,k2⟩;have K2:=Lib.hid (K1.out.trans k2);have e1:=(HBB.out.1.kp k2).cell 1;have e2:=(HBB.out.2.kp k2).cell 1;simp only[List.getElem?_toArray,List.getElem?_cons_zero,List.getElem?_cons_succ] at e1 e2;clear k2 H1 HBB;go_wp2_with fail;refine (H2.out w2 K2.out).mono ?_;rintro _ w3 ⟨⟨bb,rfl,hb⟩,k3⟩;have HB:Hid (bb=true↔P):=⟨fun h=>HY1.out (hb.1 h),fun h=>hb.2 (Classical.not_not.1 fun hn=>HN2.out hn h)⟩;have K3:=Lib.hid (K2.out.trans k3);clear hb k3 HY1 HN2 e1 e2 H2;go_wp2_with fail;go_ret;exact ⟨⟨bb,rfl,HB.out⟩,K3.out⟩
 ·rw[decide_eq_false q] at H1
  have HX:=Lib.hid (HN1.out q);clear HN1 HN2 HY H2 q;go_enter Tryz.func18,Tryz.ntmps18;go_wp2_with fail;obtain ⟨w1,hw1⟩:∃ w1,(w.alloc (.cells #[.slice a1 n1 c1,.slice a2 n2 c2] 27)).alloc (.cells #[.slice a3 n3 c3,.slice a4 n4 c4] 27)=w1:=⟨_,rfl⟩;have K1:Hid (Kp w w1):=by unfold Hid;rw[← hw1];exact ((Kp.refl _).alloc _).alloc _
  rw[hw1];clear hw1;refine (H1.out w1 K1.out).mono ?_;rintro _ w2 ⟨rfl,k2⟩;have K2:=Lib.hid (K1.out.trans k2);clear k2 H1;go_wp2_with fail;go_ret;exact ⟨aav.no HX.out,K2.out⟩
theorem afU (x y x' y':Value)(p q:Pa)(w:World)(hp:PIn w x y p)(hq:PIn w x' y' q):
 Calls Tryz.prog 18 #[.agg #[x,y],.agg #[x',y']] w fun e w'=>aav e (p=q)∧Kp w w':=akc x y x' y' p q w hp.pub hp.step hq.pub hq.step
end Go.Proofs.YthmhklmkgkfcpaaGreatDoor
