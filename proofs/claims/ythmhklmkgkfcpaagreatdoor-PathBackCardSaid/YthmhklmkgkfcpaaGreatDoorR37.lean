import Derived.Test.YthmhklmkgkfcpaaGreatDoorR14
import Derived.Test.YthmhklmkgkfcpaaGreatDoorR17
import Derived.Test.YthmhklmkgkfcpaaGreatDoorR20
import Derived.Test.YthmhklmkgkfcpaaGreatDoorR24
import Derived.Test.YthmhklmkgkfcpaaGreatDoorR29
import Derived.Test.YthmhklmkgkfcpaaGreatDoorR31
import Derived.Test.YthmhklmkgkfcpaaGreatDoorR34
import Derived.Test.YthmhklmkgkfcpaaGreatDoorR36
set_option linter.unusedVariables false
set_option linter.unusedSimpArgs false
set_option maxHeartbeats 8000000
set_option maxRecDepth 100000
namespace Go.Proofs.YthmhklmkgkfcpaaGreatDoor
open Go.RowKit
theorem Rd.bytesIn {w:World}{a:Option Addr}{c:Nat}{l:List UInt8}(h:Rd w (.slice a l.length c) l):Lib.BytesIn w a l.length (l.map fun b=>(b.toNat:Int)):=fun h0=>by
 obtain ⟨b,off,e,_,hc⟩:=h.at 0 h0;refine ⟨b,off,e,fun i hi=>?_⟩;rw[hc i hi,List.getD_eq_getElem?_getD,List.getElem?_eq_getElem hi,List.getD_eq_getElem?_getD,List.getElem?_map,List.getElem?_eq_getElem hi];rfl
theorem afX (l:List UInt8):Lib.bytesOf (l.map fun b=>(b.toNat:Int))=l:=by
 unfold Lib.bytesOf;rw[List.map_map];conv=>rhs;rw[← List.map_id l]
 refine List.map_congr_left fun b _=>?_
 simp
theorem abk (u v:Value)(l m:List UInt8)(w:World)(hu:Rd w u l)(hv:Rd w v m):
  Calls Tryz.prog 52 #[u,v] w fun e w'=>e=.returned (.bool (decide (l=m)))∧Kp w w':=by
 obtain ⟨a1,c1,rfl,p1,s1⟩:=hu.shape;obtain ⟨a2,c2,rfl,p2,s2⟩:=hv.shape;refine (Tryz.bytes_Equal_all a1 a2 l.length c1 m.length c2 (l.map fun b=>(b.toNat:Int)) (m.map fun b=>(b.toNat:Int)) w (List.length_map ..) (List.length_map ..) hu.bytesIn hv.bytesIn).mono ?_;rintro e w' ⟨rfl,rfl⟩;rw[afX,afX];refine ⟨?_,Kp.refl _⟩;by_cases e:l=m
 ·rw[decide_eq_true e,e];simp
 ·rw[decide_eq_false e];simp[e]
theorem amS (v:Value)(l:List Int)(w:World)(h:RI w v l)(hl:l.length≤1000000):
  Calls Tryz.prog 174 #[v] w fun e w'=>∃ u,e=.returned u∧OI 3 w' w.heap.size u l∧Kp w w':=by
 have S:=ae0
 have q:∀ (w:World) (a:Option Addr) (n c n' c':Nat),(binOp .eql 34 (.slice a n c) (.slice none n' c')).run Tryz.prog w=.ok (.bool a.isNone) w:=fun w a n c n' c'=>Lib.run_eql_slice_nil w _ _ a n c n' c' Tryz.underlying34
 have h':=h
 obtain ⟨a,c,rfl,hc,hm⟩:=h.shape
 cases a with
 | none=>
  have hl0:l=[]:=by
   by_cases h0:0<l.length
   ·obtain ⟨b,off,e,_⟩:=h.at 0 h0
    cases e
   ·exact List.eq_nil_of_length_eq_zero (by omega)
  subst hl0
  go_enter Tryz.func174,Tryz.ntmps174
  go_wp2_with fail
  go_ret
  exact ⟨_,rfl,OI.nil _ _ _,Kp.refl _⟩
 | some a=>
  go_enter Tryz.func174,Tryz.ntmps174
  go_wp2_with (at_builtin;refine aaD S rfl _ _ rfl w.heap.size _ [] rfl (RI.lit w _ #[] [] 0 rfl (by omega) rfl) _ l rfl (h'.kp ((Kp.refl _).alloc _)) ?c1 ?c2 ?_;rotate_right;intro v' w2 ho2 hg)
  case c1=>simp;omega
  case c2=>simp
  go_ret
  exact ⟨_,rfl,by simpa using ho2,Kp.grown (v:=.slice (some ⟨w.heap.size,0,none⟩) 0 0) ((Kp.refl _).alloc _) hg (by intro k hk;simp[Value.ownBlock] at hk;omega)⟩
theorem NL.flat9 {w:World}{b off n c:Nat}{t:List Nod}(h:NL w (.slice (some ⟨b,off,none⟩) n c) t)(h0:0<t.length):
  ∃ us:List Value,us.length=t.length*5∧(∀ z∈us,z.oneCell'=true)∧(∀ j z,us[j]?=some z→w.cell? ⟨b,off+j,none⟩=some z) ∧
   ∀ i,i<t.length→∃ p u h,(∀ f,f<5→us[i*5+f]?=(nodC (ats t i) p u h)[f]?)∧NIn w (ats t i) p u h:=by
 have hn:n=t.length:=by
  obtain ⟨a',c',e,_⟩:=h.shape;simp only[Value.slice.injEq] at e;exact e.2.1
 obtain ⟨b',off',ea,_,hi⟩:=h.at 0 (by omega);simp only[Option.some.injEq,Addr.mk.injEq,and_true] at ea;obtain ⟨rfl,rfl⟩:=ea;have hnil:∀ x:Value,aaq (.slice none 0 0) x:=fun x g hg=>by cases hg
 obtain ⟨us,h1,h2,h3,h4⟩:=NAp.flat (v:=.slice none 0 0) (t:=t) (fun i hi'=>by
  obtain ⟨p,u,h,hn'⟩:=hi i (by omega);exact ⟨p,u,h,hn',hnil _,hnil _,hnil _⟩)
 refine ⟨us,h1,h2,h3,fun i hi'=>?_⟩;obtain ⟨p,u,h,a1,a2,_⟩:=h4 i hi';exact ⟨p,u,h,a1,a2⟩
theorem aio (v:Value)(t:List Nod)(w:World)(hv:NL w v t)(h0:0<t.length)(hl:t.length≤1000000):
  Calls Tryz.prog 105 #[v] w fun e w'=>(∃ v' us,e=.returned v'∧w'.ownsRow w.heap.size 81 5 v' t.length us∧(∀ z∈us,z.oneCell'=true) ∧
   ∀ i,i<t.length→∃ p u h,(∀ f,f<5→us[i*5+f]?=(nodC (ats t i) p u h)[f]?)∧NIn w (ats t i) p u h)∧Kp w w':=by
 have S:=aof;obtain ⟨i0,z0,hi0,hz0,hz1,hz2,hz3⟩:=S.hi;have q:∀ (w:World) (a:Option Addr) (n c n' c':Nat),(binOp .eql 22 (.slice a n c) (.slice none n' c')).run Tryz.prog w=.ok (.bool a.isNone) w:=fun w a n c n' c'=>Lib.run_eql_slice_nil w _ _ a n c n' c' Tryz.underlying22
 obtain ⟨a,c,rfl,hc,hm⟩:=hv.shape;obtain ⟨b,off,rfl,_,_⟩:=hv.at 0 h0;obtain ⟨us,h1,h2,h3,h4⟩:=hv.flat9 h0;have H3:=Lib.hid h3;have H4:=Lib.hid h4;have H2:=Lib.hid h2;have HBY:=Lib.hid (And.intro hl (Nat.mul_le_mul hl hz2));generalize t.length=N at *;have HM:=Lib.hid hm;have H1:=Lib.hid h1;clear hv h4 h3 hl h2 h0 hm h1;go_enter Tryz.func105,Tryz.ntmps105;go_wp2_with (at_builtin;refine wpList_append_own_at _ rfl _ _ 22 rfl w.heap.size 81 i0 z0 5 i0.bytes S.ht hi0 hz0 hz1 rfl hz3 (by decide) _ 0 [] rfl (World.ownsRow_made w #[] 0 (Nat.le_refl _) (Nat.zero_le _) (by simp)) ⟨b,off,none⟩ N c us rfl H1.out (fun j y hj=>by rw[Addr.add_mid];exact ((Kp.refl w).alloc _).cell (H3.out j y hj)) H2.out (by have:=HBY.out.1;unfold maxLen;omega) (by have:=HBY.out.2;rw[Nat.zero_add];omega) (by simp) ?_;intro v' w' k1 k2 _ k4)
 have K2:=Lib.hid (Kp.grown (w0:=w) (v:=.slice (some ⟨w.heap.size,0,none⟩) 0 0) ((Kp.refl _).alloc _) k2 (by intro k hk;simp[Value.ownBlock] at hk;omega));have K1:=Lib.hid k1;clear k1 k2 k4;go_ret;exact ⟨⟨_,us,rfl,by simpa using K1.out,H2.out,H4.out⟩,K2.out⟩
def amT (seed info half b:List UInt8):List UInt8 × Int:=
 if half.length≠32 then ([],5) else if unE seed half info b≠0 then ([],unE seed half info b) else if (unR seed half info b).length≠32 then ([],2) else (unR seed half info b,0)
theorem ahE (ar6 v x y:Value)(seed info half b:List UInt8)(w:World)(hu:Rd w ar6 seed)(hv:Rd w v info)(hx:Rd w x half)(hy:Rd w y b)(hil:info.length≤1400)(hbl:b.length≤1600):
  Calls Tryz.prog 120 #[ar6,v,.agg #[x,y]] w fun e w'=>(∃ r,e=.returned (.tuple #[r,.int .i64 (amT seed info half b).2])∧Rd w' r (amT seed info half b).1)∧Kp w w':=by
 have HUW:=Lib.hid (fun W (hW:Kp w W)=>ai7 ar6 x v y seed half info b W (hu.kp hW) (hx.kp hW) (hv.kp hW) (hy.kp hW) hil hbl);have HX:Hid (amT seed info half b=if half.length≠32 then ([],5) else if unE seed half info b≠0 then ([],unE seed half info b) else if (unR seed half info b).length≠32 then ([],2) else (unR seed half info b,0)):=rfl;generalize amT seed info half b=OUT at *;generalize unE seed half info b=UE at *;generalize unR seed half info b=UR at *;obtain ⟨au,nu,cu,rfl⟩:=aac hu;obtain ⟨av,nv,cv,rfl⟩:=aac hv;obtain ⟨ax,cx,rfl,_,_⟩:=hx.shape;obtain ⟨ay,ny,cy,rfl⟩:=aac hy;clear hu hv hx hy;by_cases h32:half.length=32
 ·have HX1:Hid (OUT=if UE≠0 then ([],UE) else if UR.length≠32 then ([],2) else (UR,0)):=by have:=HX.out;rwa [if_neg (by simpa using h32)] at this
  rw[h32] at HUW ⊢;clear HX h32;go_enter Tryz.func120,Tryz.ntmps120;go_wp2_with fail;obtain ⟨w1,hw1⟩:∃ w1,w.alloc (.cells #[.slice ax 32 cx,.slice ay ny cy] 92)=w1:=⟨_,rfl⟩;have K1:Hid (Kp w w1):=by unfold Hid;rw[← hw1];exact (Kp.refl _).alloc _
  rw[hw1];clear hw1;refine (HUW.out w1 K1.out).mono ?_;rintro _ w2 ⟨⟨q,rfl,rq⟩,k2⟩;obtain ⟨a9,c9,rfl,l1,l2⟩:=rq.shape;have R9:=Lib.hid rq;have K2:=Lib.hid (K1.out.trans k2);clear rq k2 HUW;by_cases hu0:UE=0
  ·subst hu0
   have HX2:Hid (OUT=if UR.length≠32 then ([],2) else (UR,0)):=by have:=HX1.out;rwa [if_neg (by simp)] at this
   clear HX1;by_cases hr32:UR.length=32
   ·have HX3:Hid (OUT=(UR,0)):=by have:=HX2.out;rwa [if_neg (by simpa using hr32)] at this
    have hri:(UR.length:Int)=32:=by omega
    have HFIN:Hid ((∃ r,Ending.returned (.tuple #[Value.slice a9 UR.length c9,.int .i64 0])=.returned (.tuple #[r,.int .i64 OUT.2])∧Rd w2 r OUT.1)∧Kp w w2):=by rw[HX3.out];exact ⟨⟨_,rfl,R9.out⟩,K2.out⟩
    have hne:((UR.length:Int)==32)=true:=by rw[hri];rfl
    have hne2:((UR.length:Int) != 32)=false:=by rw[hri];rfl
    clear HX2 HX3 hr32;go_wp2_with fail;go_ret2;exact HFIN.out
   ·have HX3:Hid (OUT=([],2)):=by have:=HX2.out;rwa [if_pos hr32] at this
    have HFIN:Hid ((∃ r,Ending.returned (.tuple #[Value.slice none 0 0,.int .i64 2])=.returned (.tuple #[r,.int .i64 OUT.2])∧Rd w2 r OUT.1)∧Kp w w2):=by rw[HX3.out];exact ⟨⟨_,rfl,aaQ _⟩,K2.out⟩
    have hne:((UR.length:Int)==32)=false:=beq_eq_false_iff_ne.2 (by omega);have hne3:¬(UR.length:Int)=32:=by omega
    clear HX2 HX3;go_wp2_with fail;go_ret2;exact HFIN.out
  ·have HX3:Hid (OUT=([],UE)):=by have:=HX1.out;rwa [if_pos hu0] at this
   have HFIN:Hid ((∃ r,Ending.returned (.tuple #[Value.slice none 0 0,.int .i64 UE])=.returned (.tuple #[r,.int .i64 OUT.2])∧Rd w2 r OUT.1)∧Kp w w2):=by rw[HX3.out];exact ⟨⟨_,rfl,aaQ _⟩,K2.out⟩
   have hne:(UE==0)=false:=beq_eq_false_iff_ne.2 hu0;clear HX1 HX3;go_wp2_with fail;go_ret2;exact HFIN.out
 ·have HX1:Hid (OUT=([],5)):=by have:=HX.out;rwa [if_pos h32] at this
  have hne:((half.length:Int)==32)=false:=beq_eq_false_iff_ne.2 (by omega);have hne3:¬(half.length:Int)=32:=by omega
  have HFIN:Hid (∀ W,Kp w W→(∃ r,Ending.returned (.tuple #[Value.slice none 0 0,.int .i64 5])=.returned (.tuple #[r,.int .i64 OUT.2])∧Rd W r OUT.1)∧Kp w W):=fun W hW=>by rw[HX1.out];exact ⟨⟨_,rfl,aaQ _⟩,hW⟩
  clear HX HUW HX1;go_enter Tryz.func120,Tryz.ntmps120;go_wp2_with fail;go_ret2;exact HFIN.out _ ((Kp.refl _).alloc _)
def alT (l:List Int)(x:Int)(r:Int):Prop:=(∃ k:Nat,r=(k:Int)∧k<l.length∧l.getD k 0=x)∨(r = -1∧x∉l)
theorem alb (ar6:Value)(l:List Int)(x:Int)(w:World)(hu:RI w ar6 l):
  Calls Tryz.prog 132 #[ar6,.int .i64 x] w fun e w'=>(∃ r,e=.returned (.int .i64 r)∧alT l x r)∧w=w':=by
 obtain ⟨a,c,rfl,p1,s1⟩:=hu.shape;unfold maxLen at s1;have HU:=Lib.hid hu;have HY:Hid (∀ k:Nat,k<l.length→l.getD k 0=x→alT l x (k:Int)):=fun k hk e=>.inl ⟨k,rfl,hk,e⟩
 have HN:Hid ((∀ k,k<l.length→l.getD k 0≠x)→alT l x (-1)):=fun h=>.inr ⟨rfl,fun hm=>by
  obtain ⟨k,hk,e⟩:=List.getElem_of_mem hm;exact h k hk (by rw[List.getD_eq_getElem?_getD,List.getElem?_eq_getElem hk];exact e)⟩
 generalize alT l x=FI at *;obtain ⟨N,hN⟩:∃ N,l.length=N:=⟨_,rfl⟩;rw[hN] at HU HY HN p1 ⊢;clear hu hN;go_enter Tryz.func132,Tryz.ntmps132;go_wp2_with fail;go_loop [8] (fun i=>∃ k:Nat,k≤N∧i=.int .i64 (k:Int)∧(∀ j,j<k→l.getD j 0≠x)) (fun i=>(N - (intOf i).toNat))
 case atStart=>exact ⟨0,Nat.zero_le _,rfl,fun t h=>by omega⟩
 case round=>
  obtain ⟨k,hk,rfl,hpre⟩:=hrel;by_cases hlt:k<N
  ·obtain ⟨b,off,rfl,_,hc⟩:=HU.out.at k hlt
   have c0:=hc k hlt;have HYK:=Lib.hid (HY.out k hlt);have HPR:=Lib.hid hpre;have i1:IntKind.i64.wrap ((k:Int)+1)=(k:Int)+1:=IntWalk.i64_in _ (by omega);have i3:(k:Int)<(N:Int):=by omega
   by_cases h1:l.getD k 0=x
   ·have HF:=Lib.hid (HYK.out h1)
    have hbe:(x==l.getD k 0)=true:=by rw[h1];exact beq_self_eq_true _
    rw[h1] at c0;clear hc HYK HPR HY HN hpre h1 hbe;go_wp2_with fail;go_ret;exact ⟨⟨_,rfl,HF.out⟩,rfl⟩
   ·have HP:Hid (∀ j,j<k+1→l.getD j 0≠x):=fun j hj=>by
     rcases Nat.lt_or_eq_of_le (Nat.lt_succ_iff.1 hj) with h3 | h3
     ·exact HPR.out j h3
     ·rw[h3];exact h1
    obtain ⟨X,hX⟩:∃ X,l.getD k 0=X:=⟨_,rfl⟩;rw[hX] at c0 h1;have hbe:(x==X)=false:=beq_eq_false_iff_ne.2 fun e=>h1 e.symm
    clear hc HYK HPR HY HN hpre hX;go_wp2_with fail;go_round
    case rel=>exact ⟨k+1,by omega,by first | rfl | (rw[i1];rfl),HP.out⟩
    case measure=>simp[intOf];omega
  ·obtain rfl:k=N:=by omega
   have HF:=Lib.hid (HN.out hpre);have i3:¬(k:Int)<(k:Int):=by omega
   clear HN hpre HY;go_wp2_with fail;go_ret;exact ⟨⟨_,rfl,HF.out⟩,rfl⟩
theorem ahF (ar6:Value)(l:List Int)(x:Int)(w:World)(hu:RI w ar6 l):
  Calls Tryz.prog 94 #[ar6,.int .i64 x] w fun e w'=>e=.returned (.bool (decide (x∈l)))∧w=w':=by
 have HI:=Lib.hid (alb ar6 l x w hu);obtain ⟨a,n,c,rfl⟩:=hu.sl;clear hu;go_enter Tryz.func94,Tryz.ntmps94;go_wp2_with fail;refine HI.out.mono ?_;rintro _ _ ⟨⟨r,rfl,hr⟩,rfl⟩;have HF:Hid (decide (0≤r)=decide (x∈l)):=by
  rcases hr with ⟨k,rfl,hk,e⟩ | ⟨rfl,hn⟩
  ·have:x∈l:=by
    rw[List.getD_eq_getElem?_getD,List.getElem?_eq_getElem hk] at e;exact (show l[k]=x from e)▸List.getElem_mem hk
   exact (decide_eq_true (show 0≤(k:Int) by omega)).trans (decide_eq_true this).symm
  ·exact (show decide (0≤(-1:Int))=false from rfl).trans (decide_eq_false hn).symm
 clear hr HI;go_wp2_with fail;go_ret;exact ⟨by rw[← HF.out] <;> first | rfl | simp,rfl⟩
theorem af7 (ar6:Value)(seed:List UInt8)(n:Nod)(p q h:Value)(w:World)(hu:Rd w ar6 seed)(hn:NIn w n p q h):
  Calls Tryz.prog 46 #[ar6,.agg #[.int .i64 n.kind,.int .i64 n.name,p,q,h]] w fun e w'=>aaj e (pubE seed=0∧pubR seed=n.pub)∧Kp w w':=by
 have HP:=Lib.hid (fun W (hW:Kp w W)=>acw ar6 seed W (hu.kp hW));have HBE:=Lib.hid (fun W (hW:Kp w W) (v:Value) (l:List UInt8) (hv:Rd W v l)=>abk v p l n.pub W hv (hn.pub.kp hW));generalize pubE seed=PE at *;generalize pubR seed=PR at *;obtain ⟨au,nu,cu,rfl⟩:=aac hu;obtain ⟨a1,n1,c1,rfl⟩:=aac hn.pub;obtain ⟨a2,n2,c2,rfl⟩:=hn.un.sl;obtain ⟨a3,n3,c3,rfl⟩:=aac hn.hash;obtain ⟨KD,hKD⟩:∃ k,n.kind=k:=⟨_,rfl⟩;obtain ⟨NM,hNM⟩:∃ k,n.name=k:=⟨_,rfl⟩;rw[hKD,hNM];generalize n.pub=NP at *;clear hu hn hKD hNM;go_enter Tryz.func46,Tryz.ntmps46;go_wp2_with fail;obtain ⟨w1,hw1⟩:∃ w1,w.alloc (.cells #[.int .i64 KD,.int .i64 NM,.slice a1 n1 c1,.slice a2 n2 c2,.slice a3 n3 c3] 81)=w1:=⟨_,rfl⟩;have HB:Hid (Bx w1 w.heap.size 81 #[.int .i64 KD,.int .i64 NM,.slice a1 n1 c1,.slice a2 n2 c2,.slice a3 n3 c3]):=by unfold Hid;rw[← hw1];exact Bx.new w _ _
 have K1:Hid (Kp w w1):=by unfold Hid;rw[← hw1];exact (Kp.refl _).alloc _
 rw[hw1];clear hw1;refine (HP.out w1 K1.out).mono ?_;rintro _ w2 ⟨⟨r,rfl,rr,nr⟩,k2⟩;obtain ⟨a9,n9,c9,rfl⟩:=aac rr;have RR:=Lib.hid rr;have K2:=Lib.hid (K1.out.trans k2);have e2:=(HB.out.kp k2).cell 2;simp only[List.getElem?_toArray,List.getElem?_cons_zero,List.getElem?_cons_succ] at e2;clear rr nr k2 HP HB;by_cases h0:PE=0
 ·subst h0
  go_wp2_with fail;refine (HBE.out w2 K2.out _ _ RR.out).mono ?_;rintro _ w3 ⟨rfl,k3⟩;have K3:=Lib.hid (K2.out.trans k3);clear k3 e2 HBE;go_wp2_with fail;go_ret;exact ⟨⟨_,rfl,by simp⟩,K3.out⟩
 ·have hne:(PE==0)=false:=beq_eq_false_iff_ne.2 h0
  have HX:Hid (¬(PE=0∧PR=NP)):=fun h=>h0 h.1
  clear HBE;go_wp2_with fail;go_ret;exact ⟨aaj.no HX.out,K2.out⟩
theorem af8 (n:Nod)(x:Int)(p q h:Value)(w:World)(hn:NIn w n p q h):
  Calls Tryz.prog 47 #[.agg #[.int .i64 n.kind,.int .i64 n.name,p,q,h],.int .i64 x] w fun e w'=>aaj e (n.kind≠0∧x∉n.un)∧Kp w w':=by
 have HC:=Lib.hid (fun W (hW:Kp w W)=>ahF q n.un x W (hn.un.kp hW));obtain ⟨a1,n1,c1,rfl⟩:=aac hn.pub;obtain ⟨a2,n2,c2,rfl⟩:=hn.un.sl;obtain ⟨a3,n3,c3,rfl⟩:=aac hn.hash;obtain ⟨NM,hNM⟩:∃ k,n.name=k:=⟨_,rfl⟩;obtain ⟨b,hb⟩:∃ b,decide (x∈n.un)=b:=⟨_,rfl⟩;have HM:Hid (b=true↔x∈n.un):=by unfold Hid;rw[← hb,decide_eq_true_iff]
 rw[hb] at HC;rw[hNM];generalize n.kind=KD at *;generalize n.un=UN at *;clear hn hNM hb;go_enter Tryz.func47,Tryz.ntmps47;have HB:Hid (Bx (w.alloc (.cells #[.int .i64 KD,.int .i64 NM,.slice a1 n1 c1,.slice a2 n2 c2,.slice a3 n3 c3] 81)) w.heap.size 81 #[.int .i64 KD,.int .i64 NM,.slice a1 n1 c1,.slice a2 n2 c2,.slice a3 n3 c3]):=Bx.new w _ _;by_cases h0:KD=0
 ·subst h0
  have HX:Hid (¬((0:Int)≠0∧x∉UN)):=fun h=>h.1 rfl
  go_wp2_with fail;go_ret;exact ⟨aaj.no HX.out,(Kp.refl _).alloc _⟩
 ·have hne:(KD==0)=false:=beq_eq_false_iff_ne.2 h0
  have hne2:(KD != 0)=true:=bne_iff_ne.2 h0;have K1:Hid (Kp w (w.alloc (.cells #[.int .i64 KD,.int .i64 NM,.slice a1 n1 c1,.slice a2 n2 c2,.slice a3 n3 c3] 81))):=(Kp.refl _).alloc _;go_wp2_with fail;refine (HC.out _ K1.out).mono ?_;rintro _ _ ⟨rfl,rfl⟩;have HX:Hid ((!b)=true↔KD≠0∧x∉UN):=by
   unfold Hid;rw[← not_congr HM.out];cases b <;> simp[h0]
  go_wp2_with fail;go_ret;exact ⟨⟨_,rfl,HX.out⟩,K1.out⟩
def stpF (t:List Nod)(i k:Nat):Stp:=⟨((nd (k+1) (i / 2 ^ (k+1)):Nat):Int),whoF t i k⟩
def abV (t:List Nod)(i m:Nat):List Stp:=(ixS t i m).map (stpF t i)
theorem arc {t:List Nod}{i m:Nat}(h:(whoF t i m).length=0):abV t i (m+1)=abV t i m:=by
 unfold abV;rw[show ixS t i (m+1)=ixS t i m by rw[ixS];rw[if_pos h]]
theorem apY {t:List Nod}{i m:Nat}(h:(whoF t i m).length≠0):abV t i (m+1)=abV t i m++[⟨((nd (m+1) (i / 2 ^ (m+1)):Nat):Int),whoF t i m⟩]:=by
 unfold abV;rw[show ixS t i (m+1)=ixS t i m++[m] by rw[ixS];rw[if_neg h],List.map_append];rfl
theorem abS (t:List Nod)(i m:Nat):(abV t i m).length=(ixS t i m).length:=by unfold abV;simp
theorem aeD {t:List Nod}{i m a:Nat}(h:a<(ixS t i m).length):spAt (abV t i m) a=⟨(((aaa t i m).getD a 0:Nat):Int),(whoN t i m).getD a []⟩:=by
 unfold spAt abV aaa whoN;rw[List.getD_eq_getElem?_getD,List.getD_eq_getElem?_getD,List.getD_eq_getElem?_getD,List.getElem?_map,List.getElem?_map,List.getElem?_map,List.getElem?_eq_getElem h];rfl
theorem RN.stepF {A B:World}{Y:Nat→Prop}{v:Value}{l:List Nat}(h:RN A v l)(hs:Step Y A B)(hf:Free Y v):RN B v l:=by
 obtain ⟨a,c,e,h1,h2,h3,h4⟩:=h;subst e;refine ⟨a,c,rfl,h1,h2,h3,fun x hx i hi=>?_⟩;have hc:=h4 x hx i hi;subst hx;exact hs.cell hc (by rw[aaL];exact hf x _ c rfl (by first | omega | (rw[List.length_map] at hi ⊢;omega)))
theorem Step.then {Y:Nat→Prop}{A B C:World}{row:Option Nat}(h:Step Y A B)(g:B.grownBy C row)(hr:∀ k,row=some k→A.heap.size≤k∨Y k):Step Y A C:=
 ⟨g.os.trans h.os,g.tape.trans h.tape,g.output.trans h.output,Nat.le_trans h.size g.size,fun k hk hn=>(g.block k (Nat.lt_of_lt_of_le hk h.size) fun e=>(hr k e.symm).elim (fun h=>by omega) hn).trans (h.block k hk hn)⟩
theorem Step.andKp {Y:Nat→Prop}{A B C:World}(h:Step Y A B)(k:Kp B C):Step Y A C:=
 ⟨k.os.trans h.os,k.tape.trans h.tape,k.output.trans h.output,Nat.le_trans h.size k.size,fun q hq hn=>(k.block q (Nat.lt_of_lt_of_le hq h.size)).trans (h.block q hq hn)⟩
structure WIn (w:World)(ar6 n s:Value)(t:List Nod)(K i:Nat):Prop where
 mk ::
 tree:NL w ar6 t
 nodes:RN w n (aag K 0 i)
 steps:ar4 ahz w s (abV t i K)
theorem WIn.kp {w w':World}{ar6 n s:Value}{t:List Nod}{K i:Nat}(h:WIn w ar6 n s t K i)(k:Kp w w'):WIn w' ar6 n s t K i:=⟨h.tree.kp k,h.nodes.kp k,ar4.kp h.steps k⟩
theorem ai9:(Tryz.prog.info? 95).map (·.size)=some 4:=by kernel_rfl
theorem arS {a1 a3 a4:Option Addr}{n1 n3 n4 c1 c3 c4:Nat}{k:IntKind}{i:Int}:∀ z∈[Value.slice a1 n1 c1,.int k i,.slice a3 n3 c3,.slice a4 n4 c4],z.oneCell'=true:=by
 intro z hz;simp only[List.mem_cons,List.not_mem_nil,or_false] at hz;rcases hz with rfl | rfl | rfl | rfl <;> rfl
theorem ad9 (ar6:Value)(t:List Nod)(K:Nat)(i:Int)(w:World)(hu:NL w ar6 t)(hr:aab t K)(hno:¬aar t i):
  Calls Tryz.prog 40 #[ar6,.int .i64 i] w fun e w'=>e=.returned (.tuple #[.agg #[.slice none 0 0,.int .i64 0,.slice none 0 0,.slice none 0 0],.int .i64 11])∧Kp w w':=by
 have HT:=Lib.hid (fun W (hW:Kp w W)=>abr ar6 t K i W (hu.kp hW) hr);rw[decide_eq_false hno] at HT;obtain ⟨a,c,rfl,_,_⟩:=hu.shape;generalize t.length=N at *;clear hu hr hno;go_enter Tryz.func40,Tryz.ntmps40;go_wp2_with fail;obtain ⟨w1,hw1⟩:∃ w1,w.alloc (.cells #[.slice none 0 0,.int .i64 0,.slice none 0 0,.slice none 0 0] 95)=w1:=⟨_,rfl⟩;have HB:Hid (Bx w1 w.heap.size 95 #[.slice none 0 0,.int .i64 0,.slice none 0 0,.slice none 0 0]):=by unfold Hid;rw[← hw1];exact Bx.new w _ _
 have K1:Hid (Kp w w1):=by unfold Hid;rw[← hw1];exact (Kp.refl _).alloc _
 rw[hw1];clear hw1;refine (HT.out w1 K1.out).mono ?_;rintro _ _ ⟨rfl,rfl⟩;go_wp2_with (refine aan rfl rfl 95 (.tmp 4) (.tmp 16) rfl w.heap.size 95 _ #[.slice none 0 0,.int .i64 0,.slice none 0 0,.slice none 0 0] rfl rfl HB.out rfl arS ai9 ?_;intro wq hbq gq hkq)
 have hk:=hkq w K1.out (Nat.le_refl _);refine bodyPost_ret (aap rfl _ _ w.heap.size _ _ (0,0) _ _ rfl hbq Tryz.underlying95 rfl ai9 rfl) rfl ?_;exact ⟨rfl,hk⟩
theorem acx (ar6:Value)(t:List Nod)(K i:Nat)(w:World)(hu:NL w ar6 t)(hr:aab t K)(hkind:(ats t (2*i)).kind=1)(hTab:Tab w):
  Calls Tryz.prog 40 #[ar6,.int .i64 (i:Int)] w fun e w'=>(∃ n s,e=.returned (.tuple #[.agg #[ar6,.int .i64 (i:Int),n,s],.int .i64 0])∧WIn w' ar6 n s t K i)∧Kp w w':=by
 obtain ⟨z1,z2,z3⟩:=hr.small;have hth:=(hr.there_iff i).2 hkind;have hi2:=aab.lt_of (t:=t) (x:=2*i) (by rw[hkind];decide);have hi:i<2 ^ K:=by omega
 have hp2:=acd hr.le;have hK10:=hr.le;have HT:=Lib.hid (fun W (hW:Kp w W)=>abr ar6 t K (i:Int) W (hu.kp hW) hr);rw[decide_eq_true hth] at HT;have HPO:=Lib.hid (fun W (hW:Kp w W)=>ain ar6 t K i W (hu.kp hW) hr hi (hTab.kp hW));have HSZ:=Lib.hid (fun W (hW:Kp w W)=>ad6 ar6 t W (hu.kp hW) (by omega));rw[(ad4 hr.le hr.len).1] at HSZ;have HCO:=Lib.hid (fun W (hW:Kp w W)=>ahG K 0 i W hr.le (Nat.zero_le _) (by simpa using hi) (hTab.kp hW));rw[abE] at HCO;have HRS:=Lib.hid (fun (m:Nat) W (hW:Kp w W)=>ale ar6 t K ((nd m (sq (i / 2 ^ m)):Nat):Int) W (hu.kp hW) hr (hTab.kp hW));have HW:Hid (∀ m,resV t ((nd m (sq (i / 2 ^ m)):Nat):Int)=whoF t i m):=fun m=>rfl
 have HCA:=Lib.hid (fun m (h:m<K)=>alc (i:=i) h);have HPA:=Lib.hid (fun m (h:m<K)=>akc (i:=i) h);have HPL:=Lib.hid (ad8 K i);have HCL:=Lib.hid (ald K i);have HSN:=Lib.hid (fun m=>arc (t:=t) (i:=i) (m:=m));have HSY:=Lib.hid (fun m=>apY (t:=t) (i:=i) (m:=m));have HSL:Hid (∀ m,(abV t i m).length≤m):=fun m=>by rw[abS];exact ab3 t i m
 have Hs0:Hid (abV t i 0=[]):=rfl;have HU:=Lib.hid hu;have i2:IntKind.i64.wrap (2*(i:Int))=((2*i:Nat):Int):=by rw[IntWalk.i64_in _ (by omega)];omega
 have HFIN:Hid (∀ W n s,NL W ar6 t→RN W n (aag K 0 i)→ar4 ahz W s (abV t i K)→WIn W ar6 n s t K i):=fun W n s h1 h2 h3=>⟨h1,h2,h3⟩
 generalize aag K 0 i=PT at *;generalize aa6 K 0 i=CT at *;generalize hST:abV t i=ST at *;generalize hWF:whoF t i=WF at *;generalize hLV:2 ^ K=L at *;obtain ⟨a,c,rfl,p1,s1⟩:=hu.shape;obtain ⟨N,hN⟩:∃ N,t.length=N:=⟨_,rfl⟩;rw[hN] at HT HPO HSZ HRS HFIN HU p1 z1 ⊢;generalize hI2:2*i=I2 at *;clear hu hr hkind hth hi2 hi hTab hST hWF hLV z2 z3 hN hI2;go_enter Tryz.func40,Tryz.ntmps40;go_wp2_with fail;obtain ⟨w1,hw1⟩:∃ w1,w.alloc (.cells #[.slice none 0 0,.int .i64 0,.slice none 0 0,.slice none 0 0] 95)=w1:=⟨_,rfl⟩;have HB:Hid (Bx w1 w.heap.size 95 #[.slice none 0 0,.int .i64 0,.slice none 0 0,.slice none 0 0]):=by unfold Hid;rw[← hw1];exact Bx.new w _ _
 have K1:Hid (Kp w w1):=by unfold Hid;rw[← hw1];exact (Kp.refl _).alloc _
 rw[hw1];clear hw1;refine (HT.out w1 K1.out).mono ?_;rintro _ _ ⟨rfl,rfl⟩;go_wp2_with fail;refine (HPO.out w1 K1.out).mono ?_;rintro _ w2 ⟨⟨pv,rfl,o2⟩,k2⟩;obtain ⟨ap,cp,e1,p2,s2⟩:=o2.rn.shape;subst e1;rw[HPL.out] at o2 p2 ⊢;have O2:=Lib.hid (And.intro o2 k2);have K2:=Lib.hid (K1.out.trans k2);clear o2 k2 HT HPO;go_wp2_with fail;obtain ⟨w3,hw3⟩:∃ w3,w2.alloc (.cells #[.slice a N c,.int .i64 (i:Int),.slice ap K cp,.slice none 0 0] 95)=w3:=⟨_,rfl⟩;have HB3:Hid (Bx w3 w2.heap.size 95 #[.slice a N c,.int .i64 (i:Int),.slice ap K cp,.slice none 0 0]):=by unfold Hid;rw[← hw3];exact Bx.new w2 _ _
 have K3:Hid (Kp w2 w3):=by unfold Hid;rw[← hw3];exact (Kp.refl _).alloc _
 rw[hw3];clear hw3;refine (HSZ.out w3 (K2.out.trans K3.out)).mono ?_;rintro _ _ ⟨rfl,rfl⟩;go_wp2_with fail;refine (HCO.out w3 (K2.out.trans K3.out)).mono ?_;rintro _ w4 ⟨⟨cv,rfl,r4⟩,k4⟩;obtain ⟨ac,cc,e2,ar2,s3⟩:=r4.rn.shape;subst e2;rw[HCL.out] at r4 ar2 ⊢;have R4:=Lib.hid r4;have K4:=Lib.hid k4;have e3:=(HB3.out.kp k4).cell 2;simp only[List.getElem?_toArray,List.getElem?_cons_zero,List.getElem?_cons_succ] at e3;have HRB:Hid (w.heap.size<w1.heap.size∧w1.heap.size≤w2.heap.size∧w2.heap.size<w4.heap.size):=⟨(Array.getElem?_eq_some_iff.1 HB.out).1,O2.out.2.size,(Array.getElem?_eq_some_iff.1 (HB3.out.kp k4)).1⟩;clear r4 k4 HSZ HCO;go_wp2_with fail;have HNF:Hid (Free (fun g=>g=w2.heap.size) (.slice ac K cc)):=aa1 (C:=w3.heap.size) (fun g hg=>(World.ownsRow.lt R4.out g hg).1) fun g hg=>by have:=(Array.getElem?_eq_some_iff.1 HB3.out).1;omega
 go_loopw[34] (fun x wr=>∃ (m:Nat) (av:Option Addr) (nv cv:Nat),m≤K∧x=.int .i64 (m:Int)∧Bx wr w2.heap.size 95 #[.slice a N c,.int .i64 (i:Int),.slice ap K cp,.slice av nv cv]∧GZ ahz 99 (fun g=>g=w2.heap.size∨g=w.heap.size) wr w4.heap.size (.slice av nv cv) (ST m)∧Kp w2 wr∧Step (fun g=>g=w2.heap.size) w4 wr) (fun x _=>(K - (intOf x).toNat))
 case atStart=>exact ⟨0,none,0,0,Nat.zero_le _,rfl,HB3.out.kp K4.out,by rw[Hs0.out];exact GZ.nil _ _ _,K3.out.trans K4.out,Step.refl _ _⟩
 case round=>
  obtain ⟨m,av,nv,cv,hm,rfl,hbx,hgz,hkp,hstp⟩:=hrel;have HI:=Lib.hid (And.intro hbx (And.intro hgz (And.intro hkp hstp)));have KW:=Lib.hid (K2.out.trans hkp);clear hbx hgz hkp hstp;by_cases hlt:m<K
  ·obtain ⟨gp,op,rfl,_,hcp⟩:=(O2.out.1.rn.kp HI.out.2.2.1).at m hlt
   obtain ⟨gc,oc,rfl,_,hcc⟩:=(R4.out.rn.stepF HI.out.2.2.2 HNF.out).at m hlt;have c1:=hcp m hlt;have c2:=hcc m hlt;rw[HPA.out m hlt] at c1;rw[HCA.out m hlt] at c2;have i1:IntKind.i64.wrap ((m:Int)+1)=(m:Int)+1:=IntWalk.i64_in _ (by omega);have i3:(m:Int)<(K:Int):=by omega
   have HR:=Lib.hid (HRS.out m wr KW.out);rw[HW.out m] at HR;have HLE:=Lib.hid (HSL.out m);have HN1:=Lib.hid (HSN.out m);have HY1:=Lib.hid (HSY.out m);have HBS:Hid (w4.heap.size≤wr.heap.size):=HI.out.2.2.2.size;have HLTV:Hid (∀ g,(Value.slice av nv cv).ownBlock=some g→w4.heap.size≤g∧g<wr.heap.size):=fun g hg=>HI.out.2.1.lt g hg
   generalize nd (m+1) (i / 2 ^ (m+1))=X at *;generalize nd m (sq (i / 2 ^ m))=Y at *;clear hcp hcc HRS HCA HPA HSN HSY HSL HW;go_wp2_with fail;refine HR.out.mono ?_;rintro _ w5 ⟨⟨r,rfl,o5⟩,k5⟩;have O5:=Lib.hid o5;have K5:=Lib.hid k5;have hri:=o5.ri;obtain ⟨ar,cr,e5,p5,s5⟩:=hri.shape;subst e5;generalize WF m=WM at *;by_cases h0:WM.length=0
   ·have h0i:¬(0:Int)<(WM.length:Int):=by omega
    have HE:=Lib.hid (HN1.out h0);clear o5 k5 hri HR c1 c2 HY1;go_wp2_with fail;go_roundw
    case rel=>exact ⟨m+1,av,nv,cv,by omega,by first | rfl | (rw[i1];rfl),HI.out.1.kp K5.out,by rw[HE.out];exact HI.out.2.1.kp K5.out,HI.out.2.2.1.trans K5.out,HI.out.2.2.2.andKp K5.out⟩
    case measure=>simp[intOf];omega
   ·have h0i:(0:Int)<(WM.length:Int):=by omega
    have HE:=Lib.hid (HY1.out h0);have hb5:=HI.out.1.kp k5;have e6:=hb5.cell 3;simp only[List.getElem?_toArray,List.getElem?_cons_zero,List.getElem?_cons_succ] at e6;have HB5:=Lib.hid hb5;have HG5:=Lib.hid (HI.out.2.1.kp k5);have HEL:Hid (ahz.R (fun g=>some g=(Value.slice av nv cv).ownBlock∨(g=w2.heap.size∨g=w.heap.size)) w5 [.int .i64 (X:Int),.slice ar WM.length cr] ⟨(X:Int),WM⟩):=
     ⟨_,rfl,hri,aa1 (C:=wr.heap.size) (fun g hg=>(O5.out.lt g hg).1) fun g hg=>hg.elim (fun h=>(HLTV.out g h.symm).2) fun h=>by have:=HRB.out;have:=HBS.out;omega⟩
    have hle:(ST m).length+1≤1000000:=by have:=HLE.out;omega
    have HBS5:Hid (w4.heap.size≤w5.heap.size):=Nat.le_trans HBS.out k5.size;have K25:=Lib.hid (HI.out.2.2.1.trans k5);have S45:=Lib.hid (HI.out.2.2.2.andKp k5);clear o5 k5 hri HR c1 c2 HN1 h0 hb5;go_wp2_with (first
     | (at_builtin;refine aa8 (S:=ahz) (Z:=fun g=>g=w2.heap.size∨g=w.heap.size) (o:=⟨some 54,_,_,_,_,_⟩) stpK rfl _ _ rfl w4.heap.size _ (ST m) rfl (HG5.out.kp ((Kp.refl _).alloc _)) _ [_] rfl (SE.litZ (S:=ahz) 99 HEL.out rfl) (by exact hle) (Nat.le_trans HBS5.out (by simp)) ?_;intro vS ws os gs qs;obtain ⟨aS,nS',cS,rfl⟩:=SE.sl os.gl;have HBX:Hid (Bx ws w2.heap.size 95 #[.slice a N c,.int .i64 (i:Int),.slice (some ⟨gp,op,none⟩) K cp,.slice av nv cv]):=(HB5.out.kp ((Kp.refl _).alloc _)).grown gs (fun e=>by have:=(HLTV.out _ e.symm).1;have:=HRB.out;omega);have HTH:Hid (ws.there w2.heap.size 3 1):=fun q hq=>by { have:=HBX.out.there (3+q) (by simp;omega);rwa [Nat.zero_add] at this };have OS:=Lib.hid os;have KS:Hid (Kp w2 ws):=Kp.grown (K25.out.alloc _) gs (fun g hg=>by have:=(HLTV.out g hg).1;have:=HRB.out;omega);have SS:Hid (Step (fun g=>g=w2.heap.size) w4 ws):=(S45.out.andKp ((Kp.refl _).alloc _)).then gs (fun g hg=>.inl (HLTV.out g hg).1))
     | (refine aa5 rfl rfl 93 (.tmp 55) (.tmp 54) rfl w2.heap.size 3 (.slice aS nS' cS) rfl rfl rfl HTH.out (by kernel_rfl) ?_;intro wt hwt;obtain rfl:wt=ws.setCells w2.heap.size 3 [.slice aS nS' cS]:=hwt))
    obtain ⟨wt,hwt⟩:∃ x,ws.setCells w2.heap.size 3 [.slice aS nS' cS]=x:=⟨_,rfl⟩;have hgt:ws.grownBy wt (some w2.heap.size):=by rw[← hwt];exact aa4 ws w2.heap.size 0 [.slice aS nS' cS] 3
    have hbt:Bx wt w2.heap.size 95 #[.slice a N c,.int .i64 (i:Int),.slice (some ⟨gp,op,none⟩) K cp,.slice aS nS' cS]:=by rw[← hwt];exact HBX.out.set 3 (.slice aS nS' cS)
    have hkt:Kp w2 wt:=by rw[← hwt];exact KS.out.setCells (Nat.le_refl _) _ _
    have hst:Step (fun g=>g=w2.heap.size) w4 wt:=SS.out.then hgt fun g hg=>.inr (by cases hg;rfl)
    have hrt:GZ ahz 99 (fun g=>g=w2.heap.size∨g=w.heap.size) wt w4.heap.size (.slice aS nS' cS) (ST (m+1)):=by
     rw[HE.out];exact OS.out.step (Y:=fun g=>g=w2.heap.size) ⟨hgt.os,hgt.tape,hgt.output,hgt.size,fun q hq hn=>hgt.block q hq fun e=>hn (by cases e;rfl)⟩ (fun g hg=>.inl (.inl hg)) (fun g hg e=>by have:=(OS.out.lt g hg).1;have:=HRB.out;omega)
    have HF:=Lib.hid (And.intro hbt (And.intro hrt (And.intro hkt hst)));rw[hwt];clear hwt hgt hbt hkt hst hrt HBX HTH OS KS SS;go_wp2_with fail;go_roundw
    case rel=>exact ⟨m+1,aS,nS',cS,by omega,by first | rfl | (rw[i1];rfl),HF.out.1,HF.out.2.1,HF.out.2.2.1,HF.out.2.2.2⟩
    case measure=>simp[intOf];omega
  ·obtain rfl:m=K:=by omega
   have h1:¬(m:Int)<(m:Int):=by omega
   have e4:=HI.out.1.cell 0;have e5:=HI.out.1.cell 1;have e6:=HI.out.1.cell 2;have e7:=HI.out.1.cell 3;simp only[List.getElem?_toArray,List.getElem?_cons_zero,List.getElem?_cons_succ] at e4 e5 e6 e7;have HBR:Hid (Bx wr w.heap.size 95 #[.slice none 0 0,.int .i64 0,.slice none 0 0,.slice none 0 0]):=HB.out.kp (O2.out.2.trans HI.out.2.2.1);clear HRS HCA HPA HSN HSY HSL HW;go_wp2_with (refine aan rfl rfl 95 (.tmp 4) (.tmp 57) rfl w.heap.size 95 _ #[.slice a N c,.int .i64 (i:Int),.slice ap m cp,.slice av nv cv] rfl rfl HBR.out rfl arS ai9 ?_;intro wq hbq gq hkq)
   have hk:=hkq w KW.out (Nat.le_refl _);have hsq:Step (fun g=>g=w.heap.size) wr wq:=⟨gq.os,gq.tape,gq.output,gq.size,fun q hq hn=>gq.block q hq fun e=>hn (by cases e;rfl)⟩;have HWI:=Lib.hid (HFIN.out wq (.slice ap m cp) (.slice av nv cv) (HU.out.kp hk) ((O2.out.1.rn.kp HI.out.2.2.1).stepF hsq (aa1 (C:=w1.heap.size) (fun g hg=>(World.ownsRow.lt O2.out.1 g hg).1) fun g hg=>by have:=HRB.out;omega))
    ((HI.out.2.1.step (Y:=fun g=>g=w.heap.size) hsq (fun g hg=>.inl (.inr hg)) (fun g hg e=>by have:=(HI.out.2.1.lt g hg).1;have:=HRB.out;omega)).gl))
   have HK:=Lib.hid hk;clear hk hsq hkq gq;refine bodyPost_ret (aap rfl _ _ w.heap.size _ _ (0,0) _ _ rfl hbq Tryz.underlying95 rfl ai9 rfl) rfl ?_;exact ⟨⟨_,_,rfl,HWI.out⟩,HK.out⟩
theorem aeo (u:Value)(t:List Nod)(w:World)(hu:NL w u t)(h0:0<t.length)(hl:t.length≤100000)(hb:∀ i,i<t.length→(ats t i).pub.length≤1000∧(ats t i).un.length≤100000∧(ats t i).hash.length≤1000):
  Calls Tryz.prog 141 #[u] w fun e w'=>(∃ v P U H,e=.returned v∧NX 81 3 w' w.heap.size v t P U H (fun _=>True))∧Kp w w':=by
 have HC:=Lib.hid (aio u t w hu h0 (by omega));have HCP:=Lib.hid (fun (v:Value) (l:List UInt8) (W:World) (h:Rd W v l) (hl:l.length≤1000)=>agK v l W h (by omega));have HCI:=Lib.hid (fun (v:Value) (l:List Int) (W:World) (h:RI W v l) (hl:l.length≤100000)=>amS v l W h (by omega));have HU:=Lib.hid hu;obtain ⟨a,c,rfl,p1,s1⟩:=hu.shape;have HB:=Lib.hid hb;have HSAME:=Lib.hid (fun i hi=>aoo t i hi);obtain ⟨N,hN⟩:∃ N,t.length=N:=⟨_,rfl⟩;have HN:=Lib.hid hN;rw[hN] at HC HU HB h0 hl p1 ⊢;have hlI:(N:Int)≤100000:=by omega
 have HP1:=Lib.hid (And.intro p1 s1);clear hu hb hN hl p1 s1;go_enter Tryz.func141,Tryz.ntmps141;go_wp2_with fail;refine HC.out.mono ?_;rintro _ w1 ⟨⟨v1,us,rfl,r1,r2,r3⟩,k1⟩;obtain ⟨P,U,H,r4⟩:=aq3 (R:=fun i p u h=>(∀ f,f<5→us[i*5+f]?=(nodC (ats t i) p u h)[f]?)∧NIn w (ats t i) p u h) r3;obtain ⟨g,c1,rfl,hg0,hg1⟩:∃ g c1,v1=.slice (some ⟨g,0,none⟩) N c1∧w.heap.size≤g∧g<w1.heap.size∧N≤c1:=by
  rcases id r1.2 with ⟨_,e⟩ | ⟨g,cap,cur,e,e1,e2,e3,_⟩
  ·omega
  ·exact ⟨g,cap,e,e1,(Array.getElem?_eq_some_iff.1 e2).1,e3⟩
 have hstart:Hid (∃ P U H,NX 81 3 w1 w.heap.size (.slice (some ⟨g,0,none⟩) N c1) t P U H (fun j=>j<0)):=by
  refine ⟨P,U,H,⟨us,by rw[HN.out];exact r1,r2,fun i hi=>?_⟩,fun i hi=>?_,fun i hi=>?_,fun i hi hs=>absurd hs (Nat.not_lt_zero _),fun i hi hs=>absurd hs (Nat.not_lt_zero _),fun i j hi hj hs=>absurd hs (Nat.not_lt_zero _)⟩
  ·rw[HN.out] at hi;exact (r4 i hi).1
  ·rw[HN.out] at hi;exact (r4 i hi).2.kp k1
  ·rw[HN.out] at hi
   have h4:=(r4 i hi).2;exact ⟨h4.pub.apart (fun g' hg'=>by cases hg';exact hg0),h4.un.apart (fun g' hg'=>by cases hg';exact hg0),h4.hash.apart (fun g' hg'=>by cases hg';exact hg0)⟩
 have HK1:=Lib.hid k1;have HG:=Lib.hid (And.intro hg0 hg1.1);have hNc:=hg1.2;clear r1 r2 r3 r4 k1 HC hg0 hg1 P U H us;go_wp2_with fail;go_loopw[10] (fun x wr=>∃ k:Nat,k≤N∧x=.int .i64 (k:Int)∧(∃ P U H,NX 81 3 wr w.heap.size (.slice (some ⟨g,0,none⟩) N c1) t P U H (fun j=>j<k))∧Kp w wr∧g<wr.heap.size) (fun x _=>(N - (intOf x).toNat))
 case atStart=>exact ⟨0,Nat.zero_le _,rfl,hstart.out,HK1.out,HG.out.2⟩
 case round=>
  obtain ⟨k,hk,rfl,⟨P,U,H,hx⟩,hkp,hgr⟩:=hrel;by_cases hlt:k<N
  ·obtain ⟨b,off,rfl,_,hcc⟩:=HU.out.at k hlt
   obtain ⟨p,q,h,hn⟩:=hcc k hlt;have hn':=hn.kp hkp;have d0:=hn'.kind;have d1:=hn'.name;have d2:=hn'.pubC;have d3:=hn'.unC;have d4:=hn'.hashC;obtain ⟨b1,b2,b3⟩:=HB.out k hlt;have HIN:=Lib.hid hn.2;have HBB:=Lib.hid (And.intro b1 (And.intro b2 b3));obtain ⟨xp,np,xcp,rfl⟩:=aac hn'.2.pub;obtain ⟨xq,nq,xcq,rfl⟩:=hn'.2.un.sl;obtain ⟨xh,nh,xch,rfl⟩:=aac hn'.2.hash;have HX:=Lib.hid hx;have HKP:=Lib.hid (And.intro hkp hgr);have i1:IntKind.i64.wrap ((k:Int)+1)=(k:Int)+1:=IntWalk.i64_in _ (by omega);have i2:(k:Int)<(N:Int):=by omega
   clear hcc hn hn' hx hkp hgr b1 b2 b3;go_wp2_with fail;refine (HCP.out (.slice xp np xcp) _ _ (HIN.out.pub.kp (HKP.out.1.alloc _)) HBB.out.1).mono ?_;rintro _ w3 ⟨p',rfl,o3,k3⟩;have HNX1:Hid (∃ P U H,NX 81 3 (w3.setCells g (k*5+2) [p']) w.heap.size (.slice (some ⟨g,0,none⟩) N c1) t P U H (fun j=>j<k)):=⟨_,_,_,
    HX.out.clonePub (((Kp.refl wr).alloc _).trans k3) (by rw[HN.out];exact hlt) (Nat.lt_irrefl k) o3 (by simp) HKP.out.2⟩
   have HTH1:Hid (w3.there g (k*5+2) 1):=(HX.out.kp (((Kp.refl wr).alloc _).trans k3)).there k (by rw[HN.out];exact hlt) 2 (by omega);have hbx:=(Bx.new wr 81 #[.int .i64 (ats t k).kind,.int .i64 (ats t k).name,.slice xp np xcp,.slice xq nq xcq,.slice xh nh xch]).kp k3;have HBX1:Hid (Bx (w3.setCells g (k*5+2) [p']) wr.heap.size 81 #[.int .i64 (ats t k).kind,.int .i64 (ats t k).name,.slice xp np xcp,.slice xq nq xcq,.slice xh nh xch]):=hbx.grown (aa4 w3 g 0 _ _) (fun e=>by have:=HKP.out.2;simp at e;omega);have HKP1:Hid (Kp w (w3.setCells g (k*5+2) [p'])):=(HKP.out.1.trans (((Kp.refl wr).alloc _).trans k3)).setCells HG.out.1 _ _;have HSZ1:Hid (wr.heap.size<(w3.setCells g (k*5+2) [p']).heap.size):=Nat.lt_of_lt_of_le (Array.getElem?_eq_some_iff.1 hbx).1 (aa4 w3 g 0 _ _).size;obtain ⟨yp,mp,ycp,rfl⟩:=aac o3.rd;clear o3 k3 hbx;go_wp2_with (refine aa5 rfl rfl 24 (.tmp 21) (.tmp 19) rfl g (k*5+2) (.slice yp mp ycp) rfl rfl rfl HTH1.out ag2 ?_;intro W4 hW4;rw[← hW4] at HNX1 HBX1 HKP1 HSZ1;have c3:=HBX1.out.cell 3;have c4:=HBX1.out.cell 4;clear hW4)
   refine (HCI.out (.slice xq nq xcq) _ W4 (HIN.out.un.kp HKP1.out) HBB.out.2.1).mono ?_;rintro _ w5 ⟨u',rfl,o5,k5⟩;obtain ⟨P1,U1,H1,hx1⟩:=HNX1.out;have hgW:g<W4.heap.size:=Nat.lt_trans HKP.out.2 HSZ1.out;have HNX2:Hid (∃ P U H,NX 81 3 (w5.setCells g (k*5+3) [u']) w.heap.size (.slice (some ⟨g,0,none⟩) N c1) t P U H (fun j=>j<k+1)):=⟨_,_,_,hx1.cloneUn k5 (by rw[HN.out];exact hlt) (fun j hj hjk=>by omega) o5 (Nat.le_refl _) hgW HKP1.out.size⟩;have HTH2:Hid (w5.there g (k*5+3) 1):=(hx1.kp k5).there k (by rw[HN.out];exact hlt) 3 (by omega);have hbx:=HBX1.out.kp k5;have HBX2:Hid (Bx (w5.setCells g (k*5+3) [u']) wr.heap.size 81 #[.int .i64 (ats t k).kind,.int .i64 (ats t k).name,.slice xp np xcp,.slice xq nq xcq,.slice xh nh xch]):=hbx.grown (aa4 w5 g 0 _ _) (fun e=>by have:=HKP.out.2;simp at e;omega);have HKP2:Hid (Kp w (w5.setCells g (k*5+3) [u'])):=(HKP1.out.trans k5).setCells HG.out.1 _ _;have HSZ2:Hid (wr.heap.size<(w5.setCells g (k*5+3) [u']).heap.size):=Nat.lt_of_lt_of_le (Array.getElem?_eq_some_iff.1 hbx).1 (aa4 w5 g 0 _ _).size;obtain ⟨yq,mq,ycq,rfl⟩:=o5.ri.sl;clear o5 k5 hbx hx1 hgW HNX1 HBX1 HKP1 HSZ1 HTH1 c3 c4;go_wp2_with (refine aa5 rfl rfl 34 (.tmp 28) (.tmp 26) rfl g (k*5+3) (.slice yq mq ycq) rfl rfl rfl HTH2.out aih ?_;intro W6 hW6;rw[← hW6] at HNX2 HBX2 HKP2 HSZ2;have c4:=HBX2.out.cell 4;clear hW6)
   refine (HCP.out (.slice xh nh xch) _ W6 (HIN.out.hash.kp HKP2.out) HBB.out.2.2).mono ?_;rintro _ w7 ⟨h',rfl,o7,k7⟩;obtain ⟨P2,U2,H2,hx2⟩:=HNX2.out;have hgW:g<W6.heap.size:=Nat.lt_trans HKP.out.2 HSZ2.out;have HNX3:Hid (∃ P U H,NX 81 3 (w7.setCells g (k*5+4) [h']) w.heap.size (.slice (some ⟨g,0,none⟩) N c1) t P U H (fun j=>j<k+1)):=⟨_,_,_,hx2.cloneHash k7 (by rw[HN.out];exact hlt) o7 (Nat.le_refl _) hgW⟩;have HTH3:Hid (w7.there g (k*5+4) 1):=(hx2.kp k7).there k (by rw[HN.out];exact hlt) 4 (by omega);have HKP3:Hid (Kp w (w7.setCells g (k*5+4) [h'])):=(HKP2.out.trans k7).setCells HG.out.1 _ _;have HSZ3:Hid (g<(w7.setCells g (k*5+4) [h']).heap.size):=Nat.lt_of_lt_of_le hgW (Nat.le_trans k7.size (aa4 w7 g 0 _ _).size);obtain ⟨yh,mh,ych,rfl⟩:=aac o7.rd;clear o7 k7 hx2 hgW HNX2 HBX2 HKP2 HSZ2 HTH2 c4;go_wp2_with (refine aa5 rfl rfl 24 (.tmp 35) (.tmp 33) rfl g (k*5+4) (.slice yh mh ych) rfl rfl rfl HTH3.out ag2 ?_;intro W8 hW8;rw[← hW8] at HNX3 HKP3 HSZ3;clear hW8)
   go_roundw
   case rel=>exact ⟨k+1,by omega,by go_num,HNX3.out,HKP3.out,HSZ3.out⟩
   case measure=>simp[intOf];omega
  ·obtain rfl:k=N:=by omega
   have HX:=Lib.hid hx;have HKP:=Lib.hid hkp;have i2:¬(k:Int)<(k:Int):=by omega
   have HNN:=Lib.hid HN.out;clear hx hkp hgr;go_wp2_with fail;go_ret;exact ⟨⟨_,rfl,P,U,H,HX.out.weak (fun i hi _=>by rw[HN.out] at hi;exact hi)⟩,HKP.out⟩
end Go.Proofs.YthmhklmkgkfcpaaGreatDoor
