import Derived.Test.YthmhklmkgkfcpaaGreatDoorU10
import Derived.Test.YthmhklmkgkfcpaaGreatDoorU18
import Derived.Test.YthmhklmkgkfcpaaGreatDoorU20
import Derived.Test.YthmhklmkgkfcpaaGreatDoorU28
import Derived.Test.YthmhklmkgkfcpaaGreatDoorU32
import Derived.Test.YthmhklmkgkfcpaaGreatDoorU35
import Derived.WalkMore
set_option linter.unusedVariables false
set_option linter.unusedSimpArgs false
set_option maxHeartbeats 8000000
set_option maxRecDepth 100000
namespace Go.Proofs.YthmhklmkgkfcpaaGreatDoor
open Go.RowKit
theorem afQ (u:Value)(t:List Nod)(K j q:Nat)(w:World)(hu:NL w u t)(hr:aab t K)(hj:j≤K)(hq:q<2 ^ (K - j))(hk:(ats t (nd j q)).kind≠0):
  Calls Tryz.prog 90 #[u,.int .i64 ((nd j q:Nat):Int)] w fun e w'=>(∃ r,e=.returned r∧OI 3 w' w.heap.size r (((nd j q:Nat):Int) :: (ats t (nd j q)).un.map (2*·)))∧Kp w w':=by
 have S:=ad0;obtain ⟨_,s2,s3⟩:=aa4 hr.le hj hq;have hun:=fun i hi=>hr.unAt s2 s3 i hi
 have hul:=hr.un_len (nd j q);have hx:nd j q<t.length:=by rw[hr.len];exact ae8 hj hq
 obtain ⟨a,c,rfl,p1,s1⟩:=hu.shape;obtain ⟨b,off,rfl,hb,hc⟩:=hu.at (nd j q) hx;obtain ⟨p,uu,h,hn⟩:=hc (nd j q) hx;have c0:=hn.kind;have HC:=Lib.hid (fun W (hW:Kp w W)=>(hn.kp hW).unC);have HR:=Lib.hid hn.2.un;obtain ⟨aq,cq,rfl,u1,u2⟩:=hn.2.un.shape;unfold maxLen at u2;have hz1:=hr.small.1;generalize nd j q=X at *;have HV:Hid (∀ k,k<(ats t X).un.length→0≤(ats t X).un.getD k 0∧(ats t X).un.getD k 0≤2047):=fun k hk=>by
  have hg:(ats t X).un.getD k 0=(ats t X).un[k]:=by rw[List.getD_eq_getElem?_getD,List.getElem?_eq_getElem hk];rfl
  obtain ⟨v,e,_,h3⟩:=hun _ (List.getElem_mem hk);rw[hg,e];have:=aab.lt_of (t:=t) (x:=2*v) (by rw[h3];decide);omega
 have HT:Hid (∀ k,k<(ats t X).un.length→((X:Int) :: ((ats t X).un.take (k+1)).map (2*·))=((X:Int) :: ((ats t X).un.take k).map (2*·))++[2*(ats t X).un.getD k 0]):=fun k hk=>by
  rw[List.take_succ_eq_append_getElem hk,List.map_append,List.getD_eq_getElem?_getD,List.getElem?_eq_getElem hk];rfl
 have HTE:Hid (((X:Int) :: ((ats t X).un.take (ats t X).un.length).map (2*·))=((X:Int) :: (ats t X).un.map (2*·))):=by unfold Hid;rw[List.take_length]
 have HTL:Hid (∀ k,((X:Int) :: ((ats t X).un.take k).map (2*·)).length≤1025):=fun k=>by
  rw[List.length_cons,List.length_map,List.length_take];omega
 have hxb:((ats t X).kind==0)=false:=beq_eq_false_iff_ne.2 hk;have hxn:((ats t X).kind != 0)=true:=bne_iff_ne.2 hk;obtain ⟨N,hN⟩:∃ N,t.length=N:=⟨_,rfl⟩;rw[hN] at p1 hx hz1 ⊢;have i2:(X:Int)<(N:Int):=by omega
 have i2b:decide ((N:Int)≤(X:Int))=false:=decide_eq_false (by omega);have i2c:¬(N:Int)≤(X:Int):=by omega
 generalize (ats t X).kind=KD at *;generalize (ats t X).un=UN at *;obtain ⟨U,hU⟩:∃ U,UN.length=U:=⟨_,rfl⟩;rw[hU] at HC HR HV HT HTE u1 hul;clear hu hr hj hq hc hn hN hun hU s2 s3 hb hz1;obtain ⟨F,hF⟩:∃ F:Nat→List Int,F=fun k=>((X:Int) :: (UN.take k).map (2*·)):=⟨_,rfl⟩
 have hFk:∀ k,((X:Int) :: (UN.take k).map (2*·))=F k:=fun k=>by rw[hF]
 have HF0:Hid ([(X:Int)]=F 0):=by unfold Hid;rw[hF];rfl
 simp only[hFk] at HT HTE HTL;generalize ((X:Int) :: UN.map (2*·))=OUT at *;clear hF hFk;have c3:=HC.out (w.alloc (.cells #[.int .i64 (X:Int)] 3)) ((Kp.refl _).alloc _);go_enter Tryz.func90,Tryz.ntmps90;go_wp2_with fail;have HST:Hid (OI 3 (w.alloc (.cells #[.int .i64 (X:Int)] 3)) w.heap.size (.slice (some ⟨w.heap.size,0,none⟩) 1 1) (F 0)):=by
  rw[← HF0.out];exact RI.lit w 3 #[.int .i64 (X:Int)] [(X:Int)] 1 rfl (by omega) rfl
 go_loopw[5,34] (fun v i wr=>∃ k:Nat,k≤U∧i=.int .i64 (k:Int)∧OI 3 wr w.heap.size v (F k)∧Kp w wr) (fun _ i _=>(U - (intOf i).toNat))
 case atStart=>exact ⟨0,Nat.zero_le _,rfl,HST.out,(Kp.refl _).alloc _⟩
 case round=>
  obtain ⟨k,hk,rfl,ho,hkp⟩:=hrel;have c3:=HC.out wr hkp;have i1:IntKind.i64.wrap ((k:Int)+1)=(k:Int)+1:=IntWalk.i64_in _ (by omega);by_cases hlt:k<U
  ·obtain ⟨g1,o1,rfl,_,hc1⟩:=(HR.out.kp hkp).at k hlt
   have d1:=hc1 k hlt;obtain ⟨v0,v1⟩:=HV.out k hlt;have HT1:=Lib.hid (HT.out k hlt);have hfl:=HTL.out k;have hsz:=hkp.size;have i4:IntKind.i64.wrap (2*UN.getD k 0)=2*UN.getD k 0:=IntWalk.i64_in _ (by omega);clear HC HR HV HT HTE HTL hc1 HF0 HST;generalize UN.getD k 0=V at *;generalize F k=FK at *;go_wp2_with (at_builtin;refine aaw (o:=⟨some 42,_,_,_,_,_⟩) S rfl _ _ rfl w.heap.size _ FK rfl (ho.kp ((Kp.refl wr).alloc _)) _ [2*V] rfl (OI.lit1 wr 3 (2*V)) (by simp;omega) (by simp;omega) ?_;intro v5 w5 o5 g5;have k5:Kp w w5:=Kp.grown (hkp.alloc _) g5 ho.own_ge)
   go_roundw
   case rel=>exact ⟨k+1,by omega,by go_num,by rw[HT1.out];exact o5,k5⟩
   case measure=>simp[intOf];omega
  ·obtain rfl:k=U:=by omega
   rw[HTE.out] at ho;have HO:=Lib.hid (And.intro ho hkp);obtain ⟨a5,n5,c5,rfl⟩:=ho.ri.sl;clear ho hkp HTE HT HTL HV HF0 HST HC HR;go_wp2_with fail;go_ret;exact ⟨⟨_,rfl,HO.out.1⟩,HO.out.2⟩
theorem amG (u:Value)(t:List Nod)(K:Nat)(hr:aab t K):∀ (j q:Nat) (w:World),NL w u t→Tab w→j≤K→q<2 ^ (K - j) →
  Calls Tryz.prog 90 #[u,.int .i64 ((nd j q:Nat):Int)] w fun e w'=>(∃ r,e=.returned r∧OI 3 w' w.heap.size r (resF t j q))∧Kp w w':=by
 intro j
 induction j with
 | zero=>
  intro q w hu hT hj hq
  by_cases hk:(ats t (nd 0 q)).kind=0
  ·have e:resF t 0 q=[]:=by unfold resF;rw[if_pos hk]
   rw[e]
   have hx:nd 0 q<t.length:=by rw[hr.len];exact ae8 hj hq
   obtain ⟨a,c,rfl,p1,s1⟩:=hu.shape
   obtain ⟨b,off,rfl,hb,hc⟩:=hu.at (nd 0 q) hx
   obtain ⟨p,uu,h,hn⟩:=hc (nd 0 q) hx
   have c0:=hn.kind
   rw[hk] at c0
   have i2:((nd 0 q:Nat):Int)<(t.length:Int):=by omega
   obtain ⟨s1',s2,s3⟩:=aa4 hr.le hj hq
   have HLF:=Lib.hid (adw ((nd 0 q:Nat):Int) w hT)
   have hlv0:=abF s2 s3
   rw[show lefV ((nd 0 q:Nat):Int)=0 from if_pos hlv0,show chE ((nd 0 q:Nat):Int)=1 from if_pos hlv0] at HLF
   generalize nd 0 q=X at *
   generalize t.length=N at *
   clear hc hn hu hr e hb hq hj hlv0 s2 s3 s1' hT
   go_enter Tryz.func90,Tryz.ntmps90
   go_wp2_with fail
   refine HLF.out.mono ?_;rintro _ _ ⟨rfl,rfl⟩
   go_wp2_with fail
   go_ret
   exact ⟨⟨_,rfl,OI.nil _ _ _⟩,Kp.refl _⟩
  ·have e:resF t 0 q=(((nd 0 q:Nat):Int) :: (ats t (nd 0 q)).un.map (2*·)):=by unfold resF;rw[if_neg hk]
   rw[e]
   exact afQ u t K 0 q w hu hr hj hq hk
 | succ j ih=>
  intro q w hu hT hj hq
  by_cases hk:(ats t (nd (j+1) q)).kind=0
  ·have S:=ad0
   have e:resF t (j+1) q=resF t j (2*q)++resF t j (2*q+1):=by
    show (if (ats t (nd (j+1) q)).kind=0 then _ else _)=_
    rw[if_pos hk]
   rw[e]
   have e9:K - j=(K - (j+1))+1:=by omega
   have hp:=aaj (K - (j+1))
   rw[← e9] at hp
   have H1:=Lib.hid (fun W (hW:Kp w W)=>ih (2*q) W (hu.kp hW) (hT.kp hW) (by omega) (by omega))
   have H2:=Lib.hid (fun W (hW:Kp w W)=>ih (2*q+1) W (hu.kp hW) (hT.kp hW) (by omega) (by omega))
   obtain ⟨_,s2,s3⟩:=aa4 hr.le hj hq
   obtain ⟨f1,f2,f3⟩:=adC (j:=j) (q:=q) s2 s3
   have HLF:=Lib.hid (adw ((nd (j+1) q:Nat):Int) w hT)
   have HRT:=Lib.hid (aeg ((nd (j+1) q:Nat):Int) w hT)
   rw[f1,f2] at HLF
   rw[f1,f3] at HRT
   have hlen:(resF t j (2*q)).length+(resF t j (2*q+1)).length≤1000000:=by
    have h1:=agQ hr j (2*q) (by omega) (by omega)
    have h2:=agQ hr j (2*q+1) (by omega) (by omega)
    have h3:2 ^ (j+1)≤1024:=acc (by have:=hr.le;omega)
    omega
   have hx:nd (j+1) q<t.length:=by rw[hr.len];exact ae8 hj hq
   obtain ⟨a,c,rfl,p1,s1⟩:=hu.shape
   obtain ⟨b,off,rfl,hb,hc⟩:=hu.at (nd (j+1) q) hx
   obtain ⟨p,uu,h,hn⟩:=hc (nd (j+1) q) hx
   have c0:=hn.kind
   rw[hk] at c0
   have i2:((nd (j+1) q:Nat):Int)<(t.length:Int):=by omega
   generalize nd (j+1) q=X at *
   generalize nd j (2*q)=XL at *
   generalize nd j (2*q+1)=XR at *
   generalize resF t j (2*q)=RL9 at *
   generalize resF t j (2*q+1)=RR9 at *
   generalize t.length=N at *
   clear hc hn hu hr e hb hq hj hT e9 hp s2 s3 f1 f2 f3 ih hx
   go_enter Tryz.func90,Tryz.ntmps90
   go_wp2_with fail
   refine HLF.out.mono ?_;rintro _ _ ⟨rfl,rfl⟩
   go_wp2_with fail
   refine HRT.out.mono ?_;rintro _ _ ⟨rfl,rfl⟩
   clear HLF HRT
   go_wp2_with fail
   refine (H1.out w (Kp.refl _)).mono ?_;rintro _ w1 ⟨⟨r1,rfl,o1⟩,k1⟩
   have K1:=Lib.hid k1
   have O1:=Lib.hid o1
   obtain ⟨x5,n5,c5,rfl⟩:=o1.ri.sl
   clear H1 o1
   go_wp2_with fail
   refine (H2.out w1 K1.out).mono ?_;rintro _ w2 ⟨⟨r2,rfl,o2⟩,k2⟩
   have hsz:=(K1.out.trans k2).size
   go_wp2_with (at_builtin;refine aaw (o:=⟨some 63,_,_,_,_,_⟩) S rfl _ _ rfl w.heap.size _ RL9 rfl (O1.out.kp k2) _ RR9 rfl o2.ri hlen (by omega) ?_;intro v5 w5 o5 g5;have k5:Kp w w5:=Kp.grown (K1.out.trans k2) g5 O1.out.own_ge)
   have O5:=Lib.hid (And.intro o5 k5)
   obtain ⟨x6,n6,c6,rfl⟩:=o5.ri.sl
   clear H2 o2 k2 o5 g5 k5 O1
   go_wp2_with fail
   go_ret
   exact ⟨⟨_,rfl,O5.out.1⟩,O5.out.2⟩
  ·have e:resF t (j+1) q=(((nd (j+1) q:Nat):Int) :: (ats t (nd (j+1) q)).un.map (2*·)):=by
    show (if (ats t (nd (j+1) q)).kind=0 then _ else _)=_
    rw[if_neg hk]
   rw[e]
   exact afQ u t K (j+1) q w hu hr hj hq hk
theorem ak1 (u:Value)(t:List Nod)(K:Nat)(x:Int)(w:World)(hu:NL w u t)(hr:aab t K)(hT:Tab w):
  Calls Tryz.prog 90 #[u,.int .i64 x] w fun e w'=>(∃ r,e=.returned r∧OI 3 w' w.heap.size r (resV t x))∧Kp w w':=by
 by_cases h0:0≤x
 ·obtain ⟨y,rfl⟩:=Int.eq_ofNat_of_zero_le h0
  by_cases h1:y<t.length
  ·obtain ⟨j,q,rfl,hj,hq⟩:=ahh K y (by rw[← hr.len];exact h1)
   rw[alf hr hj hq];exact amG u t K hr j q w hu hT hj hq
  ·have e:resV t (y:Int)=[]:=if_neg (by omega)
   have i1:¬(y:Int)<0:=by omega
   have i2:(t.length:Int)≤(y:Int):=by omega
   rw[e];obtain ⟨a,c,rfl,p1,s1⟩:=hu.shape;clear hu hr e h1;go_enter Tryz.func90,Tryz.ntmps90;go_wp2_with fail;go_ret;exact ⟨⟨_,rfl,OI.nil _ _ _⟩,Kp.refl _⟩
 ·have e:resV t x=[]:=if_neg (fun h=>h0 h.1)
  have i1:x<0:=by omega
  rw[e];obtain ⟨a,c,rfl,p1,s1⟩:=hu.shape;clear hu hr e;go_enter Tryz.func90,Tryz.ntmps90;go_wp2_with fail;go_ret;exact ⟨⟨_,rfl,OI.nil _ _ _⟩,Kp.refl _⟩
attribute [local go_sem] Oper.semAt_some
theorem ahy (K j q:Nat)(w:World)(hK:K≤10)(hj:j≤K)(hq:q<2 ^ (K - j))(hT:Tab w):
  Calls Tryz.prog 88 #[.int .i64 ((nd j q:Nat):Int),.int .i64 ((2 ^ K:Nat):Int)] w fun e w'=>(∃ v,e=.returned (.tuple #[v,.int .i64 0])∧ON 3 w' w.heap.size v (aa2 K j q))∧Kp w w':=by
 have S:=ad0;obtain ⟨i0,z0,hi0,hz0,hz1,hz2,hz3⟩:=S.hi;have hin:=(adK ((nd j q:Nat):Int) ((2 ^ K:Nat):Int)).2 ⟨K,j,q,hK,rfl,rfl,hj,hq⟩;have HN:=Lib.hid (aeb ((nd j q:Nat):Int) ((2 ^ K:Nat):Int));rw[hin] at HN;obtain ⟨X,hX⟩:∃ X:Int,X=((nd j q:Nat):Int):=⟨_,rfl⟩;obtain ⟨N,hN⟩:∃ N:Int,N=((2 ^ K:Nat):Int):=⟨_,rfl⟩;rw[← hX,← hN] at HN ⊢;have HU:=Lib.hid (fun W hTW=>aoc K j q X N W hX hN hK hj hq hTW);have HTK:Hid (∀ i,i<K - j→(aa2 K j q).take (i+1)=(aa2 K j q).take i++[nd (j+i) (sq (q / 2 ^ i))]):=fun i hi=>ai8 K j q i hi
 have HSB:Hid (∀ i W,i<K - j→Calls Tryz.prog 126 #[.int .i64 ((nd (j+i) (q / 2 ^ i):Nat):Int),.int .i64 ((nd (j+(i+1)) (q / 2 ^ (i+1)):Nat):Int)] W fun e w'=>e=.returned (.int .i64 ((nd (j+i) (sq (q / 2 ^ i)):Nat):Int))∧W=w'):=fun i W hi=>by
  rw[agi];exact akQ (j+i) (q / 2 ^ i) W (by omega) (arv hK (ae9 hq (by omega)))
 have HE:Hid ((aa2 K j q).take (K - j)=aa2 K j q):=List.take_of_length_le (by rw[acU];omega);have HLN:Hid (∀ i,((aa2 K j q).take i).length≤1000):=fun i=>by rw[List.length_take,acU];omega
 obtain ⟨f,hf⟩:∃ f:Nat→Nat,f=fun i=>nd (j+i) (q / 2 ^ i):=⟨_,rfl⟩
 have hfi:∀ i,nd (j+i) (q / 2 ^ i)=f i:=fun i=>by rw[hf]
 obtain ⟨g,hg⟩:∃ g:Nat→Nat,g=fun i=>nd (j+i) (sq (q / 2 ^ i)):=⟨_,rfl⟩
 have hgi:∀ i,nd (j+i) (sq (q / 2 ^ i))=g i:=fun i=>by rw[hg]
 simp only[hfi,hgi] at HU HTK HSB;generalize aa2 K j q=PL at *;generalize K - j=D at *;clear hX hN hin hq hj hK hf hfi hg hgi;refine (callsIn_wide (n:=4)).1 ?_;refine callsIn_of_wp_marks Tryz.func88 rfl trivial ?_ rfl;refine wpIn_wide.2 ?_;simp only[Tryz.ntmps88,List.append_toArray,List.size_toArray,List.length_nil,List.length_cons,Nat.reduceAdd,Nat.reduceSub,Array.replicate_succ,Array.replicate_zero,List.push_toArray,List.nil_append,List.cons_append];go_wp2_with fail;refine (HN.out _).mono ?_;rintro _ _ ⟨rfl,rfl⟩;go_wp2_with fail;obtain ⟨W1,hW1⟩:∃ W1,w.alloc (.cells #[.slice none 0 0] 34)=W1:=⟨_,rfl⟩;rw[hW1];have hb1:Boxed W1 w.heap.size 34 (.slice none 0 0):=by rw[← hW1];exact Boxed.new _ _ _
 have k1:Kp w W1:=by rw[← hW1];exact (Kp.refl _).alloc _
 have hs1:W1.heap.size=w.heap.size+1:=by rw[← hW1];simp
 refine (apR _ _ _).mono ?_;rintro _ W2 ⟨rfl,hW2⟩;have k2:Kp W1 W2:=by rw[← hW2];exact ((Kp.refl _).alloc _).alloc _
 have hs2:W2.heap.size=W1.heap.size+2:=by rw[← hW2];simp
 have hb2:Boxed W2 w.heap.size 34 (.slice none 0 0):=(k2.block _ hb1.lt).trans hb1;have HUH:=HU.out W1 (hT.kp k1);rw[hW2] at HUH;have kw2:=Below.trans k1 (k2.mono (by omega));have htl:=hT.lt;have HUH2:=Lib.hid HUH;have HS:=Lib.hid (And.intro hs1 hs2);clear hW1 hW2 hb1 HU k1 k2 HUH HN hs1 hs2;go_wp2_with fail;have hE:∀ args w,(callFunc 162 args).run Tryz.prog w=.ok (.enter 162 args) w:=enters_of Tryz.func162 (by kernel_rfl) rfl;obtain ⟨R,hR⟩:∃ R:Nat→Prop,(fun k=>k=W1.heap.size∨k=W1.heap.size+1∨k=1)=R:=⟨_,rfl⟩;have hRb:∀ k,R k→w.heap.size<k∧k<W2.heap.size∨k<w.heap.size:=fun k hk=>by have:=HS.out;rw[← hR] at hk;rcases hk with rfl | rfl | rfl <;> omega
 rw[hR] at HUH2;clear hR;refine acG (gf:=162) (lb:=#[.pointer (some ⟨W1.heap.size,0,none⟩),.pointer (some ⟨W1.heap.size+1,0,none⟩)]) rfl hE (Kp.refl W2) (fun k hk=>by have:=hRb k hk;have:=HS.out;omega) HUH2.out ?sz
   (fun i Y A=>∃ v,Coll 34 3 w R (PL.take i) Y A v) (fun c i Y A=>False) ?mI ?mIx ?TT ?h0
   (fun v a' _=>∃ x y:Int,v=#[.int .i64 x,.int .i64 y]∧a'={ tmps:=#[.int .i64 X,.int .i64 N,undef,undef,.slice none 0 0,.int .i64 0,.pointer (some ⟨w.heap.size,0,none⟩),.int .i64 x,.int .i64 y,.int .i64 X,.int .i64 N,.bool true,.bool false,.int .i64 X,.int .i64 N,.func (.func 162) #[] #[.pointer (some ⟨W1.heap.size,0,none⟩),.pointer (some ⟨W1.heap.size+1,0,none⟩)],.int .i64 x,.int .i64 y,undef,undef,undef,undef,undef,undef,undef],defers:=[] })
   (fun _ _ _ _ _ _ h _ _=>h) ?assign ?body ?done ?stop
 case h0=>exact ⟨_,hb2,by rw[List.take_zero];exact ON.nil _ _ _,(fun g hg=>by cases hg),kw2⟩
 case sz=>intro i v Y A h;rw[h];rfl
 case mI=>intro i;exact Coll.minds (by have:=HS.out;omega)
 case mIx=>intro c i Y Y' A A' h;exact h.elim
 case TT=>intro i v Yi Y A A' l o h _ _ _ _ _;exact h
 case assign=>
  intro l i Y Yi v A Kk hI hTv hK;subst hTv;gi_wp2
  exact hK _ _ (Kp.refl _) ⟨_,_,rfl,rfl⟩
 case body=>
  rintro l i Y v a' A hi ⟨u,hc⟩ hyb hRA hTv ⟨x,y,hxy,rfl⟩;subst hTv;simp only[Array.mk.injEq,List.cons.injEq,Value.int.injEq,true_and,and_true] at hxy;obtain ⟨rfl,rfl⟩:=hxy;have hcell:=hc.box.cell;have hne0:((PL.take i).map iv).length≤1000:=by rw[List.length_map];exact HLN.out i
  have hAB:w.heap.size<A.heap.size:=hc.box.lt;have hYR:∀ k,Y k∨R k→k≠w.heap.size∧k<A.heap.size:=fun k hk=>by
   have:=HS.out;have h3:=hRA.size;rcases hk with h | h
   ·have:=hyb k h;omega
   ·have:=hRb k h;omega
  have HTI:=Lib.hid (HTK.out i hi);have HY:=Lib.hid hYR;have HC:=Lib.hid hc;clear hYR hyb hRA hc;have hmx:Tryz.prog.follows .mixedOrders=true:=by kernel_rfl
  have HS1:=Lib.hid (fun W=>HSB.out i W hi);gi_wp2
  have cd:A.drew.cell? ⟨w.heap.size,0,none⟩=some u:=hcell;refine ajy (S:=fun _=>True) hmx ?_;refine aaU.take 1 (.int .i64 ((f i:Nat):Int)) rfl (by kernel_rfl) (by kernel_rfl) (by kernel_rfl) (by kernel_rfl) (fun _ _ _ h=>h) trivial ⟨fun c e=>(by cases e),fun _=>rfl,.inl ⟨rfl,fun W' hW'=>?_⟩⟩ ?_
  ·go_simp
  refine aaU.take 2 (.int .i64 ((f (i+1):Nat):Int)) rfl (by kernel_rfl) (by kernel_rfl) (by kernel_rfl) (by kernel_rfl) (fun _ _ _ h=>h) trivial ⟨fun c e=>(by cases e),fun _=>rfl,.inl ⟨rfl,fun W' hW'=>?_⟩⟩ ?_
  ·go_simp
  go_simp;refine aaU.two 0 3 rfl rfl (by kernel_rfl) (fun K2 hK=>?_) (fun K2 hK=>?_)
  ·go_simp
   refine hK _ _ trivial ?_;clear hK K2;refine aaU.one 3 rfl (by kernel_rfl) (fun K2 hK=>?_);go_simp;gi_wp2_with (refine ⟨trivial,?_⟩;gi_at_call 126;refine (CallsIn.inRound l (callsIn_wide.2 (HS1.out _))).mono ?_;rintro _ _ ⟨rfl,rfl⟩)
   refine hK _ _ trivial ?_;clear hK K2;refine aaU.one 4 rfl (by kernel_rfl) (fun K2 hK=>?_);go_simp;refine hK _ _ trivial ?_;clear hK K2;refine aaU.one 5 rfl (by kernel_rfl) (fun K2 hK=>?_);rw[if_pos (by rfl)];refine ab4 S agb _ _ (g i) rfl HC.out (HLN.out i) HY.out rfl rfl ?_;intro gv cv w1 cx fz cl hd;refine hK _ _ trivial ?_;clear hK K2;refine aaU.one 6 rfl (by kernel_rfl) (fun K2 hK=>?_);go_simp;refine hK _ _ trivial ?_;clear hK K2;refine aaU.done (by kernel_rfl) ?_;simp only[List.length_take] at cl hd;refine ⟨(Held.of_kp (aiO A)).trans hd,.inl ⟨rfl,.slice (some ⟨gv,0,none⟩) (min i PL.length+1) cv,?_⟩⟩;rw[HTI.out];exact cl
  ·go_simp
   gi_wp2_with (refine ⟨trivial,?_⟩;gi_at_call 126;refine (CallsIn.inRound l (callsIn_wide.2 (HS1.out _))).mono ?_;rintro _ _ ⟨rfl,rfl⟩)
   refine hK _ _ trivial ?_;clear hK K2;refine aaU.two 0 4 rfl rfl (by kernel_rfl) (fun K2 hK=>?_) (fun K2 hK=>?_)
   ·go_simp
    refine hK _ _ trivial ?_;clear hK K2;refine aaU.one 4 rfl (by kernel_rfl) (fun K2 hK=>?_);go_simp;refine hK _ _ trivial ?_;clear hK K2;refine aaU.one 5 rfl (by kernel_rfl) (fun K2 hK=>?_);rw[if_pos (by rfl)];refine ab4 S agb _ _ (g i) rfl HC.out (HLN.out i) HY.out rfl rfl ?_;intro gv cv w1 cx fz cl hd;refine hK _ _ trivial ?_;clear hK K2;refine aaU.one 6 rfl (by kernel_rfl) (fun K2 hK=>?_);go_simp;refine hK _ _ trivial ?_;clear hK K2;refine aaU.done (by kernel_rfl) ?_;simp only[List.length_take] at cl hd;refine ⟨(Held.of_kp (aiO A)).trans hd,.inl ⟨rfl,.slice (some ⟨gv,0,none⟩) (min i PL.length+1) cv,?_⟩⟩;rw[HTI.out];exact cl
   ·go_simp
    refine hK _ _ trivial ?_;clear hK K2;refine aaU.one 0 rfl (by kernel_rfl) (fun K2 hK=>?_);go_simp;refine hK _ _ trivial ?_;clear hK K2;refine aaU.one 5 rfl (by kernel_rfl) (fun K2 hK=>?_);rw[if_pos (by rfl)];refine ab4 S agb _ _ (g i) rfl HC.out (HLN.out i) HY.out rfl rfl ?_;intro gv cv w1 cx fz cl hd;refine hK _ _ trivial ?_;clear hK K2;refine aaU.one 6 rfl (by kernel_rfl) (fun K2 hK=>?_);go_simp;refine hK _ _ trivial ?_;clear hK K2;refine aaU.done (by kernel_rfl) ?_;simp only[List.length_take] at cl hd;refine ⟨(Held.of_kp (aiO A)).trans hd,.inl ⟨rfl,.slice (some ⟨gv,0,none⟩) (min i PL.length+1) cv,?_⟩⟩;rw[HTI.out];exact cl
 case done=>
  rintro D' Y W hD hYD hYb ⟨u,hc⟩ hd;rename_i Qp Kk hKk
  rw[HE.out] at hc;obtain ⟨au,nu,cu,rfl⟩:=(ON.rn hc.own).sl;have c1:=hc.box.cell;simp only[Exit.inBlock,Exit.then];refine hKk _ _ ?_;go_wp2;have hst:Step (fun k=>k=D') W (W.putObj D' (.deferred none)):=(Step.refl _ W).putObj _ _ (.inr rfl);refine ⟨by simp,.inl ⟨_,_,rfl,run_takeDeferred hd,?_⟩⟩;refine ⟨_,results_tmp2 rfl _ _ _,⟨_,rfl,?_⟩,Below.trans hc.kp (hst.below hc.kp.size (fun k hk=>by have:=HS.out;omega))⟩;exact adx hc.own hst (fun g hg e=>by subst e;exact hc.apt g hg (.inl hYD))
 case stop=>intro D' c i Y W hD hYD hYb hi h;exact h.elim
def stpF (t:List Nod)(i k:Nat):Stp:=⟨((nd (k+1) (i / 2 ^ (k+1)):Nat):Int),whoF t i k⟩
def abX (t:List Nod)(i m:Nat):List Stp:=(ixS t i m).map (stpF t i)
theorem aqR {t:List Nod}{i m:Nat}(h:(whoF t i m).length=0):abX t i (m+1)=abX t i m:=by
 unfold abX;rw[show ixS t i (m+1)=ixS t i m by rw[ixS];rw[if_pos h]]
theorem apE {t:List Nod}{i m:Nat}(h:(whoF t i m).length≠0):abX t i (m+1)=abX t i m++[⟨((nd (m+1) (i / 2 ^ (m+1)):Nat):Int),whoF t i m⟩]:=by
 unfold abX;rw[show ixS t i (m+1)=ixS t i m++[m] by rw[ixS];rw[if_neg h],List.map_append];rfl
theorem abU (t:List Nod)(i m:Nat):(abX t i m).length=(ixS t i m).length:=by unfold abX;simp
theorem aey {t:List Nod}{i m a:Nat}(h:a<(ixS t i m).length):spAt (abX t i m) a=⟨(((aaa t i m).getD a 0:Nat):Int),(whoN t i m).getD a []⟩:=by
 unfold spAt abX aaa whoN;rw[List.getD_eq_getElem?_getD,List.getD_eq_getElem?_getD,List.getD_eq_getElem?_getD,List.getElem?_map,List.getElem?_map,List.getElem?_map,List.getElem?_eq_getElem h];rfl
theorem RN.stepF {A B:World}{Y:Nat→Prop}{v:Value}{l:List Nat}(h:RN A v l)(hs:Step Y A B)(hf:Free Y v):RN B v l:=by
 obtain ⟨a,c,e,h1,h2,h3,h4⟩:=h;subst e;refine ⟨a,c,rfl,h1,h2,h3,fun x hx i hi=>?_⟩;have hc:=h4 x hx i hi;subst hx;exact hs.cell hc (by rw[aaJ];exact hf x _ c rfl (by first | omega | (rw[List.length_map] at hi ⊢;omega)))
theorem Step.then {Y:Nat→Prop}{A B C:World}{row:Option Nat}(h:Step Y A B)(g:B.grownBy C row)(hr:∀ k,row=some k→A.heap.size≤k∨Y k):Step Y A C:=
 ⟨g.os.trans h.os,g.tape.trans h.tape,g.output.trans h.output,Nat.le_trans h.size g.size,fun k hk hn=>(g.block k (Nat.lt_of_lt_of_le hk h.size) fun e=>(hr k e.symm).elim (fun h=>by omega) hn).trans (h.block k hk hn)⟩
theorem Step.andKp {Y:Nat→Prop}{A B C:World}(h:Step Y A B)(k:Kp B C):Step Y A C:=
 ⟨k.os.trans h.os,k.tape.trans h.tape,k.output.trans h.output,Nat.le_trans h.size k.size,fun q hq hn=>(k.block q (Nat.lt_of_lt_of_le hq h.size)).trans (h.block q hq hn)⟩
structure WIn (w:World)(arO n s:Value)(t:List Nod)(K i:Nat):Prop where
 mk ::
 tree:NL w arO t
 nodes:RN w n (aah K 0 i)
 steps:arM ahq w s (abX t i K)
theorem WIn.kp {w w':World}{arO n s:Value}{t:List Nod}{K i:Nat}(h:WIn w arO n s t K i)(k:Kp w w'):WIn w' arO n s t K i:=⟨h.tree.kp k,h.nodes.kp k,arM.kp h.steps k⟩
theorem aiX:(Tryz.prog.info? 95).map (·.size)=some 4:=by kernel_rfl
theorem ary {a1 a3 a4:Option Addr}{n1 n3 n4 c1 c3 c4:Nat}{k:IntKind}{i:Int}:∀ z∈[Value.slice a1 n1 c1,.int k i,.slice a3 n3 c3,.slice a4 n4 c4],z.oneCell'=true:=by
 intro z hz;simp only[List.mem_cons,List.not_mem_nil,or_false] at hz;rcases hz with rfl | rfl | rfl | rfl <;> rfl
theorem ad7 (arO:Value)(t:List Nod)(K:Nat)(i:Int)(w:World)(hu:NL w arO t)(hr:aab t K)(hno:¬aar t i):
  Calls Tryz.prog 40 #[arO,.int .i64 i] w fun e w'=>e=.returned (.tuple #[.agg #[.slice none 0 0,.int .i64 0,.slice none 0 0,.slice none 0 0],.int .i64 11])∧Kp w w':=by
 have HT:=Lib.hid (fun W (hW:Kp w W)=>abp arO t K i W (hu.kp hW) hr);rw[decide_eq_false hno] at HT;obtain ⟨a,c,rfl,_,_⟩:=hu.shape;generalize t.length=N at *;clear hu hr hno;go_enter Tryz.func40,Tryz.ntmps40;go_wp2_with fail;obtain ⟨w1,hw1⟩:∃ w1,w.alloc (.cells #[.slice none 0 0,.int .i64 0,.slice none 0 0,.slice none 0 0] 95)=w1:=⟨_,rfl⟩;have HB:Hid (Bx w1 w.heap.size 95 #[.slice none 0 0,.int .i64 0,.slice none 0 0,.slice none 0 0]):=by unfold Hid;rw[← hw1];exact Bx.new w _ _
 have K1:Hid (Kp w w1):=by unfold Hid;rw[← hw1];exact (Kp.refl _).alloc _
 rw[hw1];clear hw1;refine (HT.out w1 K1.out).mono ?_;rintro _ _ ⟨rfl,rfl⟩;go_wp2_with (refine aam rfl rfl 95 (.tmp 4) (.tmp 16) rfl w.heap.size 95 _ #[.slice none 0 0,.int .i64 0,.slice none 0 0,.slice none 0 0] rfl rfl HB.out rfl ary aiX ?_;intro wq hbq gq hkq)
 have hk:=hkq w K1.out (Nat.le_refl _);refine bodyPost_ret (aao rfl _ _ w.heap.size _ _ (0,0) _ _ rfl hbq Tryz.underlying95 rfl aiX rfl) rfl ?_;exact ⟨rfl,hk⟩
theorem acr (arO:Value)(t:List Nod)(K i:Nat)(w:World)(hu:NL w arO t)(hr:aab t K)(hkind:(ats t (2*i)).kind=1)(hTab:Tab w):
  Calls Tryz.prog 40 #[arO,.int .i64 (i:Int)] w fun e w'=>(∃ n s,e=.returned (.tuple #[.agg #[arO,.int .i64 (i:Int),n,s],.int .i64 0])∧WIn w' arO n s t K i)∧Kp w w':=by
 obtain ⟨z1,z2,z3⟩:=hr.small;have hth:=(hr.there_iff i).2 hkind;have hi2:=aab.lt_of (t:=t) (x:=2*i) (by rw[hkind];decide);have hi:i<2 ^ K:=by omega
 have hp2:=acc hr.le;have hK10:=hr.le;have HT:=Lib.hid (fun W (hW:Kp w W)=>abp arO t K (i:Int) W (hu.kp hW) hr);rw[decide_eq_true hth] at HT;have HPO:=Lib.hid (fun W (hW:Kp w W)=>aic arO t K i W (hu.kp hW) hr hi (hTab.kp hW));have HSZ:=Lib.hid (fun W (hW:Kp w W)=>ad5 arO t W (hu.kp hW) (by omega));rw[(ad3 hr.le hr.len).1] at HSZ;have HCO:=Lib.hid (fun W (hW:Kp w W)=>ahy K 0 i W hr.le (Nat.zero_le _) (by simpa using hi) (hTab.kp hW));rw[abK] at HCO;have HRS:=Lib.hid (fun (m:Nat) W (hW:Kp w W)=>ak1 arO t K ((nd m (sq (i / 2 ^ m)):Nat):Int) W (hu.kp hW) hr (hTab.kp hW));have HW:Hid (∀ m,resV t ((nd m (sq (i / 2 ^ m)):Nat):Int)=whoF t i m):=fun m=>rfl
 have HCA:=Lib.hid (fun m (h:m<K)=>akZ (i:=i) h);have HPA:=Lib.hid (fun m (h:m<K)=>aok (i:=i) h);have HPL:=Lib.hid (ae1 K i);have HCL:=Lib.hid (ak0 K i);have HSN:=Lib.hid (fun m=>aqR (t:=t) (i:=i) (m:=m));have HSY:=Lib.hid (fun m=>apE (t:=t) (i:=i) (m:=m));have HSL:Hid (∀ m,(abX t i m).length≤m):=fun m=>by rw[abU];exact ab3 t i m
 have Hs0:Hid (abX t i 0=[]):=rfl;have HU:=Lib.hid hu;have i2:IntKind.i64.wrap (2*(i:Int))=((2*i:Nat):Int):=by rw[IntWalk.i64_in _ (by omega)];omega
 have HFIN:Hid (∀ W n s,NL W arO t→RN W n (aah K 0 i)→arM ahq W s (abX t i K)→WIn W arO n s t K i):=fun W n s h1 h2 h3=>⟨h1,h2,h3⟩
 generalize aah K 0 i=PT at *;generalize aa2 K 0 i=CT at *;generalize hST:abX t i=ST at *;generalize hWF:whoF t i=WF at *;generalize hLV:2 ^ K=L at *;obtain ⟨a,c,rfl,p1,s1⟩:=hu.shape;obtain ⟨N,hN⟩:∃ N,t.length=N:=⟨_,rfl⟩;rw[hN] at HT HPO HSZ HRS HFIN HU p1 z1 ⊢;generalize hI2:2*i=I2 at *;clear hu hr hkind hth hi2 hi hTab hST hWF hLV z2 z3 hN hI2;go_enter Tryz.func40,Tryz.ntmps40;go_wp2_with fail;obtain ⟨w1,hw1⟩:∃ w1,w.alloc (.cells #[.slice none 0 0,.int .i64 0,.slice none 0 0,.slice none 0 0] 95)=w1:=⟨_,rfl⟩;have HB:Hid (Bx w1 w.heap.size 95 #[.slice none 0 0,.int .i64 0,.slice none 0 0,.slice none 0 0]):=by unfold Hid;rw[← hw1];exact Bx.new w _ _
 have K1:Hid (Kp w w1):=by unfold Hid;rw[← hw1];exact (Kp.refl _).alloc _
 rw[hw1];clear hw1;refine (HT.out w1 K1.out).mono ?_;rintro _ _ ⟨rfl,rfl⟩;go_wp2_with fail;refine (HPO.out w1 K1.out).mono ?_;rintro _ w2 ⟨⟨pv,rfl,o2⟩,k2⟩;obtain ⟨ap,cp,e1,p2,s2⟩:=o2.rn.shape;subst e1;rw[HPL.out] at o2 p2 ⊢;have O2:=Lib.hid (And.intro o2 k2);have K2:=Lib.hid (K1.out.trans k2);clear o2 k2 HT HPO;go_wp2_with fail;obtain ⟨w3,hw3⟩:∃ w3,w2.alloc (.cells #[.slice a N c,.int .i64 (i:Int),.slice ap K cp,.slice none 0 0] 95)=w3:=⟨_,rfl⟩;have HB3:Hid (Bx w3 w2.heap.size 95 #[.slice a N c,.int .i64 (i:Int),.slice ap K cp,.slice none 0 0]):=by unfold Hid;rw[← hw3];exact Bx.new w2 _ _
 have K3:Hid (Kp w2 w3):=by unfold Hid;rw[← hw3];exact (Kp.refl _).alloc _
 rw[hw3];clear hw3;refine (HSZ.out w3 (K2.out.trans K3.out)).mono ?_;rintro _ _ ⟨rfl,rfl⟩;go_wp2_with fail;refine (HCO.out w3 (K2.out.trans K3.out)).mono ?_;rintro _ w4 ⟨⟨cv,rfl,r4⟩,k4⟩;obtain ⟨ac,cc,e2,arL,s3⟩:=r4.rn.shape;subst e2;rw[HCL.out] at r4 arL ⊢;have R4:=Lib.hid r4;have K4:=Lib.hid k4;have e3:=(HB3.out.kp k4).cell 2;simp only[List.getElem?_toArray,List.getElem?_cons_zero,List.getElem?_cons_succ] at e3;have HRB:Hid (w.heap.size<w1.heap.size∧w1.heap.size≤w2.heap.size∧w2.heap.size<w4.heap.size):=⟨(Array.getElem?_eq_some_iff.1 HB.out).1,O2.out.2.size,(Array.getElem?_eq_some_iff.1 (HB3.out.kp k4)).1⟩;clear r4 k4 HSZ HCO;go_wp2_with fail;have HNF:Hid (Free (fun g=>g=w2.heap.size) (.slice ac K cc)):=aaX (C:=w3.heap.size) (fun g hg=>(World.ownsRow.lt R4.out g hg).1) fun g hg=>by have:=(Array.getElem?_eq_some_iff.1 HB3.out).1;omega
 go_loopw[34] (fun x wr=>∃ (m:Nat) (av:Option Addr) (nv cv:Nat),m≤K∧x=.int .i64 (m:Int)∧Bx wr w2.heap.size 95 #[.slice a N c,.int .i64 (i:Int),.slice ap K cp,.slice av nv cv]∧GZ ahq 99 (fun g=>g=w2.heap.size∨g=w.heap.size) wr w4.heap.size (.slice av nv cv) (ST m)∧Kp w2 wr∧Step (fun g=>g=w2.heap.size) w4 wr) (fun x _=>(K - (intOf x).toNat))
 case atStart=>exact ⟨0,none,0,0,Nat.zero_le _,rfl,HB3.out.kp K4.out,by rw[Hs0.out];exact GZ.nil _ _ _,K3.out.trans K4.out,Step.refl _ _⟩
 case round=>
  obtain ⟨m,av,nv,cv,hm,rfl,hbx,hgz,hkp,hstp⟩:=hrel;have HI:=Lib.hid (And.intro hbx (And.intro hgz (And.intro hkp hstp)));have KW:=Lib.hid (K2.out.trans hkp);clear hbx hgz hkp hstp;by_cases hlt:m<K
  ·obtain ⟨gp,op,rfl,_,hcp⟩:=(O2.out.1.rn.kp HI.out.2.2.1).at m hlt
   obtain ⟨gc,oc,rfl,_,hcc⟩:=(R4.out.rn.stepF HI.out.2.2.2 HNF.out).at m hlt;have c1:=hcp m hlt;have c2:=hcc m hlt;rw[HPA.out m hlt] at c1;rw[HCA.out m hlt] at c2;have i1:IntKind.i64.wrap ((m:Int)+1)=(m:Int)+1:=IntWalk.i64_in _ (by omega);have i3:(m:Int)<(K:Int):=by omega
   have HR:=Lib.hid (HRS.out m wr KW.out);rw[HW.out m] at HR;have HLE:=Lib.hid (HSL.out m);have HN1:=Lib.hid (HSN.out m);have HY1:=Lib.hid (HSY.out m);have HBS:Hid (w4.heap.size≤wr.heap.size):=HI.out.2.2.2.size;have HLTV:Hid (∀ g,(Value.slice av nv cv).ownBlock=some g→w4.heap.size≤g∧g<wr.heap.size):=fun g hg=>HI.out.2.1.lt g hg
   generalize nd (m+1) (i / 2 ^ (m+1))=X at *;generalize nd m (sq (i / 2 ^ m))=Y at *;clear hcp hcc HRS HCA HPA HSN HSY HSL HW;go_wp2_with fail;refine HR.out.mono ?_;rintro _ w5 ⟨⟨r,rfl,o5⟩,k5⟩;have O5:=Lib.hid o5;have K5:=Lib.hid k5;have hri:=o5.ri;obtain ⟨ar,cr,e5,p5,s5⟩:=hri.shape;subst e5;generalize WF m=WM at *;by_cases h0:WM.length=0
   ·have h0i:¬(0:Int)<(WM.length:Int):=by omega
    have HE:=Lib.hid (HN1.out h0);clear o5 k5 hri HR c1 c2 HY1;go_wp2_with fail;go_roundw
    case rel=>exact ⟨m+1,av,nv,cv,by omega,by first | rfl | (rw[i1];rfl),HI.out.1.kp K5.out,by rw[HE.out];exact HI.out.2.1.kp K5.out,HI.out.2.2.1.trans K5.out,HI.out.2.2.2.andKp K5.out⟩
    case measure=>simp[intOf];omega
   ·have h0i:(0:Int)<(WM.length:Int):=by omega
    have HE:=Lib.hid (HY1.out h0);have hb5:=HI.out.1.kp k5;have e6:=hb5.cell 3;simp only[List.getElem?_toArray,List.getElem?_cons_zero,List.getElem?_cons_succ] at e6;have HB5:=Lib.hid hb5;have HG5:=Lib.hid (HI.out.2.1.kp k5);have HEL:Hid (ahq.R (fun g=>some g=(Value.slice av nv cv).ownBlock∨(g=w2.heap.size∨g=w.heap.size)) w5 [.int .i64 (X:Int),.slice ar WM.length cr] ⟨(X:Int),WM⟩):=
     ⟨_,rfl,hri,aaX (C:=wr.heap.size) (fun g hg=>(O5.out.lt g hg).1) fun g hg=>hg.elim (fun h=>(HLTV.out g h.symm).2) fun h=>by have:=HRB.out;have:=HBS.out;omega⟩
    have hle:(ST m).length+1≤1000000:=by have:=HLE.out;omega
    have HBS5:Hid (w4.heap.size≤w5.heap.size):=Nat.le_trans HBS.out k5.size;have K25:=Lib.hid (HI.out.2.2.1.trans k5);have S45:=Lib.hid (HI.out.2.2.2.andKp k5);clear o5 k5 hri HR c1 c2 HN1 h0 hb5;go_wp2_with (first
     | (at_builtin;refine aa5 (S:=ahq) (Z:=fun g=>g=w2.heap.size∨g=w.heap.size) (o:=⟨some 54,_,_,_,_,_⟩) stpK rfl _ _ rfl w4.heap.size _ (ST m) rfl (HG5.out.kp ((Kp.refl _).alloc _)) _ [_] rfl (SE.litZ (S:=ahq) 99 HEL.out rfl) (by exact hle) (Nat.le_trans HBS5.out (by simp)) ?_;intro vS ws os gs qs;obtain ⟨aS,nS',cS,rfl⟩:=SE.sl os.gl;have HBX:Hid (Bx ws w2.heap.size 95 #[.slice a N c,.int .i64 (i:Int),.slice (some ⟨gp,op,none⟩) K cp,.slice av nv cv]):=(HB5.out.kp ((Kp.refl _).alloc _)).grown gs (fun e=>by have:=(HLTV.out _ e.symm).1;have:=HRB.out;omega);have HTH:Hid (ws.there w2.heap.size 3 1):=fun q hq=>by { have:=HBX.out.there (3+q) (by simp;omega);rwa [Nat.zero_add] at this };have OS:=Lib.hid os;have KS:Hid (Kp w2 ws):=Kp.grown (K25.out.alloc _) gs (fun g hg=>by have:=(HLTV.out g hg).1;have:=HRB.out;omega);have SS:Hid (Step (fun g=>g=w2.heap.size) w4 ws):=(S45.out.andKp ((Kp.refl _).alloc _)).then gs (fun g hg=>.inl (HLTV.out g hg).1))
     | (refine aa1 rfl rfl 93 (.tmp 55) (.tmp 54) rfl w2.heap.size 3 (.slice aS nS' cS) rfl rfl rfl HTH.out (by kernel_rfl) ?_;intro wt hwt;obtain rfl:wt=ws.setCells w2.heap.size 3 [.slice aS nS' cS]:=hwt))
    obtain ⟨wt,hwt⟩:∃ x,ws.setCells w2.heap.size 3 [.slice aS nS' cS]=x:=⟨_,rfl⟩;have hgt:ws.grownBy wt (some w2.heap.size):=by rw[← hwt];exact aa0 ws w2.heap.size 0 [.slice aS nS' cS] 3
    have hbt:Bx wt w2.heap.size 95 #[.slice a N c,.int .i64 (i:Int),.slice (some ⟨gp,op,none⟩) K cp,.slice aS nS' cS]:=by rw[← hwt];exact HBX.out.set 3 (.slice aS nS' cS)
    have hkt:Kp w2 wt:=by rw[← hwt];exact KS.out.setCells (Nat.le_refl _) _ _
    have hst:Step (fun g=>g=w2.heap.size) w4 wt:=SS.out.then hgt fun g hg=>.inr (by cases hg;rfl)
    have hrt:GZ ahq 99 (fun g=>g=w2.heap.size∨g=w.heap.size) wt w4.heap.size (.slice aS nS' cS) (ST (m+1)):=by
     rw[HE.out];exact OS.out.step (Y:=fun g=>g=w2.heap.size) ⟨hgt.os,hgt.tape,hgt.output,hgt.size,fun q hq hn=>hgt.block q hq fun e=>hn (by cases e;rfl)⟩ (fun g hg=>.inl (.inl hg)) (fun g hg e=>by have:=(OS.out.lt g hg).1;have:=HRB.out;omega)
    have HF:=Lib.hid (And.intro hbt (And.intro hrt (And.intro hkt hst)));rw[hwt];clear hwt hgt hbt hkt hst hrt HBX HTH OS KS SS;go_wp2_with fail;go_roundw
    case rel=>exact ⟨m+1,aS,nS',cS,by omega,by first | rfl | (rw[i1];rfl),HF.out.1,HF.out.2.1,HF.out.2.2.1,HF.out.2.2.2⟩
    case measure=>simp[intOf];omega
  ·obtain rfl:m=K:=by omega
   have h1:¬(m:Int)<(m:Int):=by omega
   have e4:=HI.out.1.cell 0;have e5:=HI.out.1.cell 1;have e6:=HI.out.1.cell 2;have e7:=HI.out.1.cell 3;simp only[List.getElem?_toArray,List.getElem?_cons_zero,List.getElem?_cons_succ] at e4 e5 e6 e7;have HBR:Hid (Bx wr w.heap.size 95 #[.slice none 0 0,.int .i64 0,.slice none 0 0,.slice none 0 0]):=HB.out.kp (O2.out.2.trans HI.out.2.2.1);clear HRS HCA HPA HSN HSY HSL HW;go_wp2_with (refine aam rfl rfl 95 (.tmp 4) (.tmp 57) rfl w.heap.size 95 _ #[.slice a N c,.int .i64 (i:Int),.slice ap m cp,.slice av nv cv] rfl rfl HBR.out rfl ary aiX ?_;intro wq hbq gq hkq)
   have hk:=hkq w KW.out (Nat.le_refl _);have hsq:Step (fun g=>g=w.heap.size) wr wq:=⟨gq.os,gq.tape,gq.output,gq.size,fun q hq hn=>gq.block q hq fun e=>hn (by cases e;rfl)⟩;have HWI:=Lib.hid (HFIN.out wq (.slice ap m cp) (.slice av nv cv) (HU.out.kp hk) ((O2.out.1.rn.kp HI.out.2.2.1).stepF hsq (aaX (C:=w1.heap.size) (fun g hg=>(World.ownsRow.lt O2.out.1 g hg).1) fun g hg=>by have:=HRB.out;omega))
    ((HI.out.2.1.step (Y:=fun g=>g=w.heap.size) hsq (fun g hg=>.inl (.inr hg)) (fun g hg e=>by have:=(HI.out.2.1.lt g hg).1;have:=HRB.out;omega)).gl))
   have HK:=Lib.hid hk;clear hk hsq hkq gq;refine bodyPost_ret (aao rfl _ _ w.heap.size _ _ (0,0) _ _ rfl hbq Tryz.underlying95 rfl aiX rfl) rfl ?_;exact ⟨⟨_,_,rfl,HWI.out⟩,HK.out⟩
end Go.Proofs.YthmhklmkgkfcpaaGreatDoor
