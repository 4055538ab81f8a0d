import Derived.Test.YthmhklmkgkfcpaaGreatDoorV16
import Derived.Lib.ConvBytes
import Derived.Lib.SlicesCompact
import Derived.Shelf.Spec.SlicesInsertGrow
import Derived.Shelf.Spec.SlicesInsert
import Derived.Shelf.Strconv.Itoa0
import Derived.Shelf.Sort.Plain
import Derived.Ground.Names2Prog
import Derived.Shelf.Slices.SearchI
import Derived.Shelf.Slices.In.SortNone
import Derived.Shelf.Bytes.SlEqualAll
import Derived.Shelf.Bytes.Small
import Derived.Sort.OwnSortedInts
import Derived.Lib.OwnBridge
set_option linter.all false
set_option maxHeartbeats 8000000
set_option maxRecDepth 100000
namespace Go.Proofs.YthmhklmkgkfcpaaGreatDoor
open Go.Proofs.Tryz Go.RowKit
variable {B w:World}{T:TypeId}{a b c v:Value}{d e g l:List UInt8}
section
open Go.Shelf
attribute [local go_sem] Oper.semAt_some
def In (p:Nat->Prop)(v:Value):Prop:=∀ b o n c,v=.slice (some ⟨b,o,none⟩) n c->p b
theorem Rd.step {Y:Nat->Prop}{A:World}(h:Rd A v l)(a:aj Y A B)(c:In (λb=>¬Y b) v):Rd B v l:=
 h.held (R:=λb=>¬Y b) ⟨a.size,λk e d=>a.block k e d⟩ c
theorem Rd.heldAll (h:Rd w v l)(f:aN (λj=>j<w.heap.size) w B):Rd B v l:=by
 obtain⟨a,c,rfl,m,k,g,e⟩:=h;exact⟨a,c,rfl,m,k,g,λx b i d=>f.cell (e x b i d) (Jb w _ (e x b i d))⟩
theorem One.heldAll {p:Nat}(h:One T w p v)(a:aN (λj=>j<w.heap.size) w B):One T B p v:=h.held a h.lt
theorem RL.lit2 {c:List UInt8}(g:Rd w b d)(f:Rd w a c):RL (w.alloc (.cells #[b,a] T)) (.slice (some ⟨w.heap.size,0,none⟩) 2 2) [d,c]:=
 RL.cons (us:=[a]) (ls:=[c]) (JW w #[b,a] 2 (IB _) (by unfold maxLen;omega) rfl) (g.kp ((Kp.refl _).alloc _)) rfl (λi e=>by
  have:i=0:=by simpa using e
  subst this;exact f.kp ((Kp.refl _).alloc _))
theorem RL.lit3 (l:Rd w c g)(k:Rd w b e)(j:Rd w a d):RL (w.alloc (.cells #[c,b,a] T)) (.slice (some ⟨w.heap.size,0,none⟩) 3 3) [g,e,d]:=
 RL.cons (us:=[b,a]) (ls:=[e,d]) (JW w #[c,b,a] 3 (IB _) (by unfold maxLen;omega) rfl) (l.kp ((Kp.refl _).alloc _)) rfl (λi h=>by
  have f:i<2:=by simpa using h
  match i,f with
  | 0,_=>exact k.kp ((Kp.refl _).alloc _)
  | 1,_=>exact j.kp ((Kp.refl _).alloc _))
theorem Bm (s i:Value)(k info:List UInt8)(w:World)(t:Rd w s k)(m:k.length<=2000)(v:∃ a n c,i=.slice a n c):
  Calls prog 170 #[s,i] w λe w'=>(∃ b,e=.returned (.func (.func 198) #[] #[.pointer (some ⟨w.heap.size,0,none⟩),.pointer (some ⟨w.heap.size+1,0,none⟩)]) /\
   One 24 w' w.heap.size (.slice (some ⟨b,0,none⟩) 64 64)/\One 24 w' (w.heap.size+1) i/\By 5 w' b (bN k))/\Kp w w':=by
 obtain⟨r,j,q,rfl⟩:=v;obtain⟨g,f,rfl,_,_⟩:=t.shape;have z:Hid (One 24 (w.alloc (.cells #[.slice g k.length f] 24)) w.heap.size (.slice g k.length f)):=One.new _ _ _;have y:Hid (One 24 ((w.alloc (.cells #[.slice g k.length f] 24)).alloc (.cells #[.slice r j q] 24)) (w.heap.size+1) (.slice r j q)):=by
  have:=One.new 24 (w.alloc (.cells #[.slice g k.length f] 24)) (.slice r j q);rwa [IQ] at this
 go_enter func170,ntmps170;go_wp2_with(go_at_call 197;refine(tX _ k _ (t.kp (((Kp.refl w).alloc _).alloc _)) m).mono ?_;rintro e h ⟨⟨b,rfl,u,o⟩,l⟩;have p:=(z.out.kp ((Kp.refl _).alloc _)).kp l;have x:=y.out.kp l;have B:=p.cell;have A:=p.frozen)
 go_ret;rw[IQ,IQ] at o;have d:aj (λk=>k=w.heap.size) h (h.setCell ⟨w.heap.size,0,none⟩ (.slice (some ⟨b,0,none⟩) 64 64)):=(aj.refl _ h).setCell _ _ (.inr rfl);exact⟨⟨b,rfl,p.set _,x.step d (by omega),(d.block b u.lt (by omega)).trans u⟩,Below.setCell (Below.trans (((Kp.refl w).alloc _).alloc _) (l.mono (by simp;omega))) (by simp) _⟩
theorem Bn (b1 b2 gK:Nat)(vi:Value)(k info:List UInt8)(w:World)(h1:One 24 w b1 (.slice (some ⟨gK,0,none⟩) 64 64))(h2:One 24 w b2 vi)(h3:By 5 w gK (bN k))(h4:Rd w vi info)
  (aP:k.length<=2000) (aQ:info.length<=1800):
  nO prog 198 #[.pointer (some ⟨b1,0,none⟩),.pointer (some ⟨b2,0,none⟩)] (λi v Y A=>Rd A v (cZ k info i)/\In Y v) 255 (λj=>j<w.heap.size) w:=by
 intro l J Jx W hh aO aM hJ ao hY h0;have HJ:=Lib.hid hJ;have aq:=Lib.hid ao;have HY:=Lib.hid hY;have HK:=Lib.hid (oH k);have HP:=Lib.hid (tZ k info);have HS:Hid (∀ i,eh (bN k) (eI k info i++info++be 1 (i+1))=cZ k info i):=λi=>by rw[AZ,tY]
 have HE:Hid (∀ i,eI k info (i+1)=cZ k info i):=λ_=>rfl
 have HB:=Lib.hid (λi=>bT 1 (i+1));have hw:=hh.size;obtain⟨ai,ci,rfl,aH,aG⟩:=h4.shape;have HI:Hid (One 24 w b2 (.slice ai info.length ci)/\Rd w (.slice ai info.length ci) info/\One 24 w b1 (.slice (some ⟨gK,0,none⟩) 64 64)/\Rd w (.slice (some ⟨gK,0,none⟩) 64 64) (bN k)):=
  ⟨h2,h4,h1,h3.rdAll (by rw[HK.out]) (IB _) (by unfold maxLen;omega)⟩
 clear hJ ao hY h1 h2 h3 h4;refine(callsIn_wide (n:=4)).1 ?_;refine callsIn_of_wp_marks func198 rfl trivial ?_ rfl;refine wpIn_wide.2 ?_;simp only[ntmps198,JE,JV,JF,Jf,Jq,Nat.reduceAdd,Nat.reduceSub,JB,JC,JM,Js,JG];go_wp2_with(go_at_call 199;refine(Bh 1 _).mono ?_;rintro e I ⟨rfl,r⟩)
 have aL:I.heap.size=W.heap.size+3:=by rw[<-r];simp
 have e3:One 187 I W.heap.size (.func (.yield l) #[] #[]):=by rw[<-r];exact((One.new _ _ _).kp ((Kp.refl _).alloc _)).kp ((Kp.refl _).alloc _)
 have e4:One 24 I (W.heap.size+1) (.slice none 0 0):=by
  have:=(One.new 24 (W.alloc (.cells #[.func (.yield l) #[] #[]] 187)) (.slice none 0 0)).kp ((Kp.refl _).alloc (.cells #[.int .i64 ((1:Nat):Int)] 3));rw[IQ,r] at this;exact this
 have e5:One 3 I (W.heap.size+1+1) (.int .i64 ((1:Nat):Int)):=by
  have:=One.new 3 ((W.alloc (.cells #[.func (.yield l) #[] #[]] 187)).alloc (.cells #[.slice none 0 0] 24)) (.int .i64 ((1:Nat):Int));rw[IQ,IQ,r] at this;exact this
 have kW:Kp W I:=by rw[<-r];exact(((Kp.refl W).alloc _).alloc _).alloc _
 clear r;refine sR (R:=λj=>j=W.heap.size+1+1) rfl (enters_of func234 (by kernel_rfl) rfl) (Kp.refl _) (λj q=>by omega) (Bi 1 255 (W.heap.size+1+1) I (by omega) rfl e5.cell) rfl
  (λi Y A=>∃ g,J i g A/\(∀ j,Y j->g j)/\(∀ j,g j->W.heap.size<=j/\j<A.heap.size)/\g W.heap.size/\g (W.heap.size+1)/\g (W.heap.size+1+1)/\One 187 A W.heap.size (.func (.yield l) #[] #[]) /\
   (∃ v,One 24 A (W.heap.size+1) v/\Rd A v (eI k info i)/\In (λb=>g b/\¬Y b) v)/\aN (λj=>j<w.heap.size) w A)
  (λc i Y A=>c=.ret/\∃ g,Jx i g A/\(∀ j,Y j->g j)/\(∀ j,g j->W.heap.size<=j/\j<A.heap.size)/\g W.heap.size)
  ?mI ?mIx ?TT ⟨λj=>W.heap.size<=j/\j<I.heap.size,HJ.out 0 _ _ W I h0 (λ_ h=>h.elim) (aj.of_kp kW) (λj q=>.inr q),λ_ h=>h.elim,λ_ h=>h,by omega,by omega,by omega,e3,⟨_,e4,cR _,λb o n c e=>by cases e⟩,hh.trans (aN.of_kp kW)⟩
  (λv a' _=>a'={ tmps:=#[.func (.yield l) #[] #[],.pointer (some ⟨b1,0,none⟩),.pointer (some ⟨b2,0,none⟩),.pointer (some ⟨W.heap.size,0,none⟩),.pointer (some ⟨W.heap.size+1,0,none⟩),v,.func (.func 234) #[] #[.pointer (some ⟨W.heap.size+1+1,0,none⟩)],v,undef,undef,undef,undef,undef,undef,undef,undef,undef,undef],defers:=[] })
  (λ_ _ _ _ _ _ h _ _=>h) ?assign ?body ?done ?stop
 case mI=>
  rintro i Y Y' A B ⟨g,q,f,d,t,C,y5,U,⟨v,S,M,hv⟩,P⟩ hY u hg;have aB:=u.size;have hn:∀ j,Y j->W.heap.size+3<=j:=λj h=>by have:=(hY j h).1;omega
  refine⟨λj=>g j\/Y' j,HJ.out i g _ A B q d (u.mono f) (λj h=>h.elim .inl (λh=>(hg j h).imp (f j) id)),λj h=>.inr h,λj h=>?_,.inl t,.inl C,.inl y5,U.step u (λe=>by have:=hn _ e;omega),⟨v,S.step u (λe=>by have:=hn _ e;omega),M.step u (λb o n c e=>(hv b o n c e).2),λb o n c e=>⟨.inl (hv b o n c e).1,λh=>?_⟩⟩,P.trans (aN.of_step u (λj q h=>by have:=hn j h;omega))⟩
  ·rcases h with h|h
   ·have:=d j h;omega
   ·rcases hg j h with h|h
    ·have:=d j (f j h);omega
    ·have:=(d _ t).2;omega
  ·rcases hg b h with h|h
   ·exact(hv b o n c e).2 h
   ·have:=(d b (hv b o n c e).1).2;omega
 case mIx=>
  rintro c i Y Y' A B ⟨hc,g,q,f,d,t⟩ hY u hg;have aB:=u.size;refine⟨hc,λj=>g j\/Y' j,aq.out i g _ A B q d (u.mono f) (λj h=>h.elim .inl (λh=>(hg j h).imp (f j) id)),λj h=>.inr h,λj h=>?_,.inl t⟩;rcases h with h|h
  ·have:=d j h;omega
  ·rcases hg j h with h|h
   ·have:=d j (f j h);omega
   ·have:=(d _ t).2;omega
 case TT=>
  rintro i v Yi Y A A' l' o M _ _ _ hl u;exact M.turn hl rfl u
 case assign=>
  intro l' i Y Yi v A K hI hT hK;gi_wp2
  exact hK _ _ (Kp.refl _) rfl
 case body=>
  rintro l' i Y v a' A hi ⟨g,q,f,d,t,C,y5,U,⟨vb,S,M,ae⟩,P⟩ aa aR hT rfl;obtain⟨i1,i2,i3,i4⟩:=HI.out;obtain⟨av,cv,rfl,_,_⟩:=hT.shape;obtain⟨ab,cb,rfl,_,_⟩:=M.shape;obtain⟨nv,ag⟩:∃ nv,(be 1 (i+1)).length=nv:=⟨_,rfl⟩;obtain⟨nb,ah⟩:∃ nb,(eI k info i).length=nb:=⟨_,rfl⟩;rw[ag] at hT ⊢;rw[ah] at M S ae;clear ag ah;have p1:=(i3.heldAll P).cell;have p2:=(i1.heldAll P).cell;have p3:=U.cell;have p4:=S.cell;have f4:=S.frozen;have Z:([eI k info i,info,be 1 (i+1)]:List (List UInt8)).flatten=eI k info i++info++be 1 (i+1):=by simp
  have am:=HS.out i;have q0:=HP.out i;have q3:=HB.out i;have N:([eI k info i,info,be 1 (i+1)]:List (List UInt8)).flatten.length<=1900:=by rw[Z,IE,IE,q3];omega
  have x:=Lib.hid (λT=>uj (.slice (some ⟨gK,0,none⟩) 64 64) (.slice (some ⟨A.heap.size,0,none⟩) 3 3) (bN k) [eI k info i,info,be 1 (i+1)] (A.alloc (.cells #[.slice ab nb cb,.slice ai info.length ci,.slice av nv cv] T)) ((i4.heldAll P).kp ((Kp.refl _).alloc _)) (RL.lit3 M (i2.heldAll P) hT) (by rw[HK.out];omega) N (by simp));rw[Z,am] at x;have Q:∀ (T:TypeId) (p:World) (a c:_),Ow 5 p (A.heap.size+1) (.slice a 32 c) (cZ k info i)->Kp (A.alloc (.cells #[.slice ab nb cb,.slice ai info.length ci,.slice av nv cv] T)) p->∀ m,∃ H:Nat->Prop,(∀ j,g j->H j)/\(∀ j,H j->W.heap.size<=j/\j<p.heap.size)/\In (λb=>H b/\¬Y b) (.slice a 32 c)/\Rd (p.setCell ⟨W.heap.size+1,0,none⟩ (.slice a 32 c)) (.slice a 32 c) (cZ k info i) /\
    aj g A (p.setCell ⟨W.heap.size+1,0,none⟩ (.slice a 32 c)) /\
    YieldAt Fence.wide m prog l #[.slice a 32 c] (p.setCell ⟨W.heap.size+1,0,none⟩ (.slice a 32 c)) λe B=>aN (λj=>H j\/j<w.heap.size) (p.setCell ⟨W.heap.size+1,0,none⟩ (.slice a 32 c)) B/\((e=.returned (.bool true)/\J (i+1) H B)\/(e=.returned (.bool false)/\Jx i H B)):=by
   intro T p a c L kp m;have X:Kp A p:=((Kp.refl A).alloc _).trans kp;have ay:=kp.size;rw[IQ] at ay;have V:aj g A (p.setCell ⟨W.heap.size+1,0,none⟩ (.slice a 32 c)):=(aj.of_kp X).setCell _ _ (.inr C);have ak:In (λb=>(g b\/(A.heap.size<=b/\b<p.heap.size))/\¬Y b) (.slice a 32 c):=λb o n c' e=>by
    have e2:(Value.slice a 32 c).ownBlock=some b:=by rw[e];rfl
    have h1:=L.own_ge b e2;have h2:=L.lt b e2;exact⟨.inr (by omega),λh=>by have:=(d b (f b h)).2;omega⟩
   have af:Rd (p.setCell ⟨W.heap.size+1,0,none⟩ (.slice a 32 c)) (.slice a 32 c) (cZ k info i):=
    L.rd.step (Y:=λb=>b=W.heap.size+1) ((aj.refl _ _).setCell _ _ (.inr rfl)) (λb o n c' e h=>by
     have e2:(Value.slice a 32 c).ownBlock=some b:=by rw[e];rfl
     have h1:=L.own_ge b e2;have h2:=(d _ C).2;omega)
   have al:∀ j,(g j\/(A.heap.size<=j/\j<p.heap.size))->W.heap.size<=j/\j<p.heap.size:=λj h=>by
    have:=(d _ C).2;rcases h with h|h
    ·have:=d j h;omega
    ·omega
   refine⟨λj=>g j\/(A.heap.size<=j/\j<p.heap.size),λj h=>.inl h,al,ak,af,V,?_⟩;refine HY.out i _ _ _ m hi (HJ.out i g _ A _ q d V (λj h=>h.imp id (λh=>by simpa using h))) (λj h=>by simpa using al j h) (P.trans (aN.of_step V (λj q h=>by have:=d j h;omega))) ⟨af,λb o n c' e=>(ak b o n c' e).1⟩
  have ap:=Lib.hid Q;clear am q0 q3 Z N hT Q;gi_wp2_with (refine⟨trivial,?_⟩;gi_at_call 200;refine(CallsIn.inRound l' (callsIn_wide.2 (x.out _))).mono ?_;rintro e p ⟨⟨a3,c3,rfl,L⟩,k3⟩;rw[IQ] at L;have d4:=((S.kp ((Kp.refl A).alloc _)).kp k3);have d3:=((U.kp ((Kp.refl A).alloc _)).kp k3).cell;have aF:=d4.cell;have aE:=d4.frozen;obtain⟨H,s,g2,g3,g4,g5,fn,tmps,assign,body,hy,G⟩:=ap.out _ p a3 c3 L k3 3)
  have az:=k3.size;rw[IQ] at az;have aK:=(d _ C).2;have X:Kp A p:=((Kp.refl A).alloc _).trans k3;obtain⟨W4,E⟩:∃ W4,p.setCell ⟨W.heap.size+1,0,none⟩ (.slice a3 32 c3)=W4:=⟨_,rfl⟩;have au:One 24 W4 (W.heap.size+1) (.slice a3 32 c3):=by rw[<-E];exact d4.set _
  have y:∀ j,j<A.heap.size->j≠W.heap.size+1->W4.heap[j]?=A.heap[j]?:=λj h1 h2=>by
   rw[<-E];exact(Below.heap_setCell p _ _ j (by simpa using h2)).trans (X.block j h1)
  have aw:One 187 W4 W.heap.size (.func (.yield l) #[] #[]):=(y _ U.lt (by omega)).trans U;have aJ:W4.heap.size=p.heap.size:=by rw[<-E];simp
  rw[E] at G g4 g5 ⊢;have an:∀ j,Y j->W.heap.size+3<=j:=λj h=>by have:=(aa j h).1;omega
  have aT:=HE.out i;clear aF aE p1 p2 p3 p4 f4 hy d3 d4 x ap M ae S U L;refine RoundIn.mono (F:=Fence.wide.inRound l') G ?_;rintro e B ⟨z,(⟨rfl,aD⟩|⟨rfl,aA⟩)⟩
  ·have ax:=z.size
   have O:aN (λj=>Y j\/j=W.heap.size+1+1) A B:=⟨by omega,λj q h=>(z.block j (by omega) (.inl (h.elim (λh=>s j (f j h)) (λh=>s j (h▸y5))))).trans (y j q (h.elim (λh=>by have:=an j h;omega) (λh=>by omega)))⟩;have aS:aN (λj=>j<w.heap.size) w B:=(P.trans (aN.of_step g5 (λj q h=>by have:=d j h;omega))).trans (z.mono (λj h=>.inr h));have ar:=au.held z (.inl (s _ C));have aI:=aw.held z (.inl (s _ t));have aC:Rd B (.slice a3 32 c3) (cZ k info i):=g4.held z (λb o n c e=>.inl (g3 b o n c e).1);clear z g4 g5 y G;gi_wp2
   exact .inl ⟨H,aD,λj h=>s j (f j h),λj h=>by have:=g2 j h;omega,s _ t,s _ C,s _ y5,_,ar,aC,g3⟩
  ·have ax:=z.size
   have O:aN (λj=>Y j\/j=W.heap.size+1+1) A B:=⟨by omega,λj q h=>(z.block j (by omega) (.inl (h.elim (λh=>s j (f j h)) (λh=>s j (h▸y5))))).trans (y j q (h.elim (λh=>by have:=an j h;omega) (λh=>by omega)))⟩;clear z g4 g5 y G;gi_wp2
   exact⟨O,.inr ⟨_,rfl,rfl,H,aA,λj h=>s j (f j h),λj h=>by have:=g2 j h;omega,s _ t⟩⟩
 case done=>
  rintro D Y W2 hD ad aa ⟨g,q,f,d,t,C,y5,_⟩ hd;go_wp2;refine⟨by simp,.inl ⟨_,_,rfl,run_takeDeferred hd,?_⟩⟩;refine⟨_,results_none rfl _ _ _,⟨_,rfl⟩,g,λj h=>by have:=d j h;rw[lG];omega,.inl (HJ.out _ g g W2 _ q d ((aj.refl _ _).putObj _ _ (.inr (f _ ad))) (λ_ h=>.inl h))⟩
 case stop=>
  rintro D c i Y W2 hD ad aa hi ⟨rfl,g,hx,f,d,t⟩ hd;go_wp2;refine⟨by simp,.inl ⟨_,_,rfl,run_takeDeferred hd,?_⟩⟩;refine⟨_,results_none rfl _ _ _,⟨_,rfl⟩,g,λj h=>by have:=d j h;rw[lG];omega,.inr ⟨i,hi,aq.out _ g g W2 _ hx d ((aj.refl _ _).putObj _ _ (.inr (f _ ad))) (λ_ h=>.inl h)⟩⟩
end
theorem qL (v:Value)(l:List UInt8)(w:World)(h:Rd w v l)(s:l.length<=1099511627776):
  Calls prog 109 #[v] w λe w'=>∃ u,e=.returned u/\Ow 5 w' w.heap.size u l/\Kp w w':=by
 have U:=ag
 have q:∀ (w:World) (a:Option Addr) (n c n' j:Nat),(binOp .eql 24 (.slice a n c) (.slice none n' j)).run prog w=.ok (.bool a.isNone) w:=λw a n c n' j=>Lib.run_eql_slice_nil w _ _ a n c n' j underlying24
 obtain⟨a,c,rfl,t,r,b,g⟩:=id h
 cases a with
 | none=>
  have i:=b rfl
  have f:l=[]:=IX (by omega)
  subst f i
  go_enter func109,ntmps109
  go_wp2_with fail
  go_ret
  exact⟨_,rfl,Ow.nil _ _ _,Kp.refl _⟩
 | some a=>
  go_enter func109,ntmps109
  go_wp2_with(at_builtin;refine cj U rfl _ _ rfl w.heap.size _ [] rfl (Ow.lit w _ _ 0 #[] [] (IB _) rfl (by omega) rfl) _ l rfl (h.kp ((Kp.refl _).alloc _)) ?c1 ?c2 ?_;rotate_right;intro p w2 d o _)
  case c1=>simp;omega
  case c2=>simp
  go_ret
  exact⟨_,rfl,by simpa using d,Kp.grown (v:=.slice (some ⟨w.heap.size,0,none⟩) 0 0) ((Kp.refl _).alloc _) o (by intro k m;simp[Value.ownBlock] at m;omega)⟩
def fe (n:Int):Int:=if 0<=n/\n<=8160 then 0 else 1
def ic (k info:List UInt8)(n:Int):List UInt8:=if 0<=n/\n<=8160 then ib k info n.toNat else []
theorem kN {n:Nat}(k info:List UInt8)(h:(n:Int)<=8160):fe n=0/\ic k info n=ib k info n:=by
 have:0<=(n:Int)/\(n:Int)<=8160:=by omega
 simp[fe,ic,this]
theorem jH {n:Int}(k info:List UInt8)(h:n<0\/8160<n):fe n=1/\ic k info n=[]:=by
 have:¬(0<=n/\n<=8160):=by omega
 simp[fe,ic,this]
theorem Bv (n:Nat)(p a:Value)(k info:List UInt8)(w0 w:World)(g f d:Nat)(r:Kp w0 w)(o:One 24 w g (.slice (some ⟨d,0,none⟩) 64 64))(m:One 24 w f a)(l:By 5 w d (bN k))(i:Rd w a info)
  (b:k.length<=2000) (c:info.length<=1800) (q:n<=8160):
  Calls prog 169 #[.int .i64 n,.func (.func 198) #[] #[.pointer (some ⟨g,0,none⟩),.pointer (some ⟨f,0,none⟩)]] w λe w'=>(∃ v,e=.returned v/\Ow 5 w' w.heap.size v (ib k info n))/\Kp w w':=
 Bd n 255 (cZ k info) _ _ (λj=>j<w.heap.size) w (iK k info) (by omega) (by omega) (enters_of func198 (by kernel_rfl) rfl) (λ_ h=>h) (Bn g f d a k info w o m l i b c)
theorem Bw (d h:Value)(k info:List UInt8)(n:Int)(w:World)(u:Rd w d k)(i:Rd w h info)(c:k.length<=2000)(g:info.length<=1800):
  Calls prog 137 #[d,h,.int .i64 n] w λe w'=>(∃ v,e=.returned (.tuple #[v,.int .i64 (fe n)])/\Ow 5 w' w.heap.size v (ic k info n))/\Kp w w':=by
 obtain⟨A,z,rfl,_,_⟩:=i.shape;by_cases l:n<0
 ·have b:=jH k info (.inl l)
  rw[b.1,b.2];have m:decide (n<0)=true:=by simp[l]
  go_enter func137,ntmps137;go_wp2_with fail;go_ret2;exact⟨⟨_,rfl,Ow.nil _ _ _⟩,Kp.refl _⟩
 ·by_cases j:8160<n
  ·have b:=jH k info (.inr j)
   rw[b.1,b.2];have m:decide (n<0)=false:=by simp;omega
   have y:decide (8160<n)=true:=by simp[j]
   go_enter func137,ntmps137;go_wp2_with fail;go_ret2;exact⟨⟨_,rfl,Ow.nil _ _ _⟩,Kp.refl _⟩
  ·obtain⟨n,rfl⟩:=IR (show 0<=n by omega)
   have a:=kN k info (show(n:Int)<=8160 by omega);rw[a.1,a.2];have m:decide ((n:Int)<0)=false:=by simp
   have y:decide (8160<(n:Int))=false:=by simp;omega
   clear a;go_enter func137,ntmps137;go_wp2_with fail;refine(Bm d _ k info _ u c ⟨_,_,_,rfl⟩).mono ?_;rintro e p ⟨⟨x,rfl,s,r,q⟩,f⟩;go_wp2_with fail;refine(Bv n d _ k info w p _ _ x f s r q (i.kp f) c g (by omega)).mono ?_;rintro e w2 ⟨⟨v,rfl,o⟩,t⟩;go_wp2_with fail;go_ret2;exact⟨⟨_,rfl,o.mono f.size⟩,f.trans t⟩
def dn:List UInt8:=[77,76,83,32,49,46,48,32]
def cN (label ctx:List UInt8)(n:Nat):List UInt8:=be 2 n++aO (dn++label)++aO ctx
def cL (k label ctx:List UInt8)(n:Int):List UInt8:=ic k (cN label ctx n.toNat) n
theorem qM (l a:List UInt8)(n:Nat)(e:l.length<=300)(f:a.length<=1400):(cN l a n).length<=1800:=by
 have d:=lL (x:=dn++l) (by rw[IE];simp[dn];omega);have c:=lL (x:=a) (by omega);have i:=kH (dn++l).length;have h:=kH a.length;have b:dn.length=8:=rfl;have g:(dn++l).length=8+l.length:=by rw[IE,b]
 unfold cN;rw[IE,IE,bT,d,c];omega
theorem ur (w:World)(e:TypeId)(s:ByteArray):Kp w (Lib.bytesWorld w e s):=
 ⟨rfl,rfl,rfl,by rw[Lib.bytesWorld_size];omega,λk a=>Lib.bytesWorld_at_old w e s k a⟩
theorem ut (w:World)(e:TypeId)(s:ByteArray)(h:s.size<=1000000):Rd (Lib.bytesWorld w e s) (.slice (some ⟨w.heap.size,0,none⟩) s.size (grownCap w s.size 0 e)) s.data.toList:=by
 have a:s.data.toList.length=s.size:=rfl;refine⟨_,_,by rw[a],by rw[a];exact grownCap_ge w _ _ _,grownCap_le_maxLen w _ _ _ (by unfold maxLen;omega),λh=>(by cases h),λx b i c=>?_⟩;cases b;have d:(⟨w.heap.size,0,none⟩:Addr).add i=⟨w.heap.size,i,none⟩:=by unfold Addr.add;split <;> simp_all
 rw[d,Lib.bytesWorld_cell w e s i (by omega),Iw,Iy c];rfl
theorem RL.lits4 {d:Value}{j f:List UInt8}(o:Rd w d j)(n:Rd w c g)(m:Rd w b f)(l:Rd w a e):RL (w.alloc (.cells #[d,c,b,a] T)) (.slice (some ⟨w.heap.size,0,none⟩) 4 4) [j,g,f,e]:=
 RL.cons (us:=[c,b,a]) (ls:=[g,f,e]) (JW w #[d,c,b,a] 4 (IB _) (by unfold maxLen;omega) rfl) (o.kp ((Kp.refl _).alloc _)) rfl (λi k=>by
  have h:i<3:=by simpa using k
  match i,h with
  | 0,_=>exact n.kp ((Kp.refl _).alloc _)
  | 1,_=>exact m.kp ((Kp.refl _).alloc _)
  | 2,_=>exact l.kp ((Kp.refl _).alloc _))
theorem Rd.sl (h:Rd w v l):∃ a n c,v=.slice a n c:=by
 obtain⟨a,c,e,_⟩:=h.shape;exact⟨_,_,_,e⟩
theorem Bz (s:ByteArray)(A:Value)(a:List UInt8)(n:Nat)(w:World)(F:Rd w A a)(E:s.size<=300)(y:a.length<=1400)(T:(n:Int)<=65535):
  Calls prog 136 #[.string s,A,.int .i64 n] w λe w'=>(∃ v,e=.returned (.tuple #[v,.int .i64 0])/\Ow 5 w' w.heap.size v (cN s.data.toList a n))/\Kp w w':=by
 obtain⟨ai,Z,rfl,_,_⟩:=F.shape;have c:=Lib.hid (λW=>jG n 2 W (by omega));have l:eH (n:Int) 2:=⟨by omega,by omega,by omega,by have:(256:Int) ^ (2:Int).toNat=65536:=(by decide);omega⟩;have z:=iZ l;have o:eP (n:Int) 2=be 2 n:=by rw[z.2];rfl
 have b:=Lib.hid (λW Y=>qK (.slice ai a.length Z) a W Y);have H:=(ko (x:=a) (by omega)).1;have f:s.data.toList.length=s.size:=rfl;have G:=ko (x:=dn++s.data.toList) (by rw[IE,f];simp[dn];omega);have h:et ((8:Int)+s.size)=0:=by unfold et;rw[if_neg (by omega)]
 have m:dm ((8:Int)+s.size)++(dn++s.data.toList)=aO (dn++s.data.toList):=by
  rw[G.2,IE,f];unfold dm;rw[if_pos h];congr 2
 have d:=Lib.hid (λW=>qJ ((8:Int)+s.size) W);rw[z.1,o] at c;rw[H] at b;rw[h] at d;have X:=λW (S:ByteArray)=>Lib.run_convert_string_bytes (P:=prog) W 9 24 5 S underlying9 underlying24 underlying5
 have R:(s.size:Int)<=300:=by omega
 have HO:=Lib.hid (IC m E);clear l z o H G h m E T;go_enter func136,ntmps136;go_wp2_with(first|(go_at_call 100;refine(c.out _).mono ?_;rintro e w1 ⟨v1,rfl,D,t⟩;obtain⟨a1,M,c1,rfl⟩:=D.rd.sl)|(go_at_call 166;refine(b.out _ (F.kp t)).mono ?_;rintro e w2 ⟨v2,rfl,C,r⟩;obtain⟨a2,L,c2,rfl⟩:=C.rd.sl)|(go_at_call 167;refine(d.out _).mono ?_;rintro e p ⟨v3,rfl,B,q⟩;obtain⟨a3,K,c3,rfl⟩:=B.rd.sl))
 have i:=ur p 5 (⟨#[77,76,83,32,49,46,48,32]⟩++s);have j:(⟨#[77,76,83,32,49,46,48,32]⟩++s:ByteArray).size=8+s.size:=by rw[ByteArray.size_append];rfl
 have u:(⟨#[77,76,83,32,49,46,48,32]⟩++s:ByteArray).data.toList=dn++s.data.toList:=by rw[ByteArray.data_append,Array.toList_append];rfl
 have k:=ut p 5 (⟨#[77,76,83,32,49,46,48,32]⟩++s) (by rw[j];omega);rw[u,j] at k;have g:([be 2 n,dm ((8:Int)+s.size),dn++s.data.toList,aO a]:List (List UInt8)).flatten=cN s.data.toList a n:=by
  unfold cN;rw[<-HO.out.1];simp only[Kj,LJ,JV,Kb]
 have U:=qM s.data.toList a n (by rw[f];omega) y;have V:2<=(cN s.data.toList a n).length:=by unfold cN;rw[IE,IE,bT];omega
 refine(kC _ [be 2 n,dm ((8:Int)+s.size),dn++s.data.toList,aO a] _ (RL.lits4 (((D.rd.kp r).kp q).kp i) (B.rd.kp i) k ((C.rd.kp q).kp i)) (by rw[g];omega) (by rw[g];omega) (by simp)).mono ?_;rw[g];rintro e I ⟨⟨v5,rfl,J⟩,Q⟩;go_wp2_with fail;go_ret2;have O:Kp w I:=((((t.trans r).trans q).trans i).trans ((Kp.refl _).alloc _)).trans Q;have N:=((((t.trans r).trans q).trans i).trans ((Kp.refl _).alloc (.cells #[.slice a1 M c1,.slice a3 K c3,.slice (some ⟨p.heap.size,0,none⟩) (8+s.size) (grownCap p (8+s.size) 0 5),.slice a2 L c2] 24))).size;exact⟨⟨_,rfl,J.mono N⟩,O⟩
theorem BA (s:ByteArray)(f:Value)(d:List UInt8)(n:Int)(w:World)(k:Rd w f d)(j:n<0\/65535<n)(c:-9223372036854775808<=n/\n<=9223372036854775807):
  Calls prog 136 #[.string s,f,.int .i64 n] w λe w'=>e=.returned (.tuple #[.slice none 0 0,.int .i64 1])/\Kp w w':=by
 obtain⟨u,r,rfl,_,_⟩:=k.shape;have a:=Lib.hid (λW=>jG n 2 W c);have b:¬eH n 2:=λh=>by
  have p:=h.2.2.2;have:(256:Int) ^ (2:Int).toNat=65536:=by decide
  have q:=h.2.2.1;omega
 rw[(kn b).1] at a;clear b j c;go_enter func136,ntmps136;go_wp2_with(first|(go_at_call 100;refine(a.out _).mono ?_;rintro e l ⟨m,rfl,g,i⟩;obtain⟨v,o,t,rfl⟩:=g.rd.sl))
 go_ret2;exact⟨rfl,i⟩
theorem oN (g:Value)(s:ByteArray)(h:Value)(k a:List UInt8)(n:Int)(w:World)(z:Rd w g k)(r:Rd w h a)(y:s.size<=300)(f:a.length<=1400)(j:k.length<=2000)(b:-9223372036854775808<=n/\n<=9223372036854775807):
  Calls prog 101 #[g,.string s,h,.int .i64 n] w λe w'=>(∃ v,e=.returned (.tuple #[v,.int .i64 (fe n)])/\Ow 5 w' w.heap.size v (cL k s.data.toList a n))/\Kp w w':=by
 have x:s.data.toList.length=s.size:=rfl;by_cases m:n<0\/65535<n
 ·have d:=jH k (cN s.data.toList a n.toNat) (n:=n) (by omega)
  have o:=Lib.hid (BA s h a n w r m b);unfold cL;rw[d.1,d.2];clear m b;go_enter func101,ntmps101;go_wp2_with(first|(go_at_call 136;refine o.out.mono ?_;rintro e t ⟨rfl,c⟩))
  go_ret2;exact⟨⟨_,rfl,Ow.nil _ _ _⟩,c⟩
 ·obtain⟨n,rfl⟩:=IR (show 0<=n by omega)
  have o:=Lib.hid (Bz s h a n w r y f (by omega));have i:=qM s.data.toList a n (by omega) f;have C:Hid (cL k s.data.toList a n=ic k (cN s.data.toList a n) n):=rfl;rw[C.out];generalize cN s.data.toList a n=I at *;have B:=Lib.hid (λW v5 (l:Rd W g k) (A:Rd W v5 I)=>Bw g v5 k I n W l A j i);clear m b;go_enter func101,ntmps101;go_wp2_with(first|(go_at_call 136;refine o.out.mono ?_;rintro e t ⟨⟨E,rfl,q⟩,c⟩;obtain⟨L,G,J,rfl⟩:=q.rd.sl)|(go_at_call 137;refine(B.out _ _ (z.kp c) q.rd).mono ?_;rintro e w2 ⟨⟨D,rfl,p⟩,u⟩;obtain⟨K,F,H,rfl⟩:=p.rd.sl))
  go_ret2;exact⟨⟨_,rfl,p.mono c.size⟩,c.trans u⟩
theorem BB (a:Value)(s:ByteArray)(k:List UInt8)(w:World)(h:Rd w a k)(g:s.size<=300)(b:k.length<=2000):
  Calls prog 140 #[a,.string s] w λe w'=>(∃ v,e=.returned (.tuple #[v,.int .i64 0])/\Ow 5 w' w.heap.size v (ib k (cN s.data.toList [] 32) 32))/\Kp w w':=by
 have d:=Lib.hid (oN a s (.slice none 0 0) k [] 32 w h (cR w) g (by simp) b (by omega));have j:fe 32=0:=rfl;have i:cL k s.data.toList [] 32=ib k (cN s.data.toList [] 32) 32:=rfl;rw[j,i] at d;go_enter func140,ntmps140;go_wp2_with(first|(go_at_call 101;refine d.out.mono ?_;rintro e l ⟨⟨m,rfl,c⟩,f⟩;obtain⟨p,n,o,rfl⟩:=c.rd.sl))
 go_ret2;exact⟨⟨_,rfl,c⟩,f⟩
theorem DX (l:List UInt8)(k:Nat):l++List.replicate k 0++[0]=l++List.replicate (k+1) 0:=by
 rw[Kb,LH]
theorem DY (v:Value)(l:List UInt8)(w:World)(h:Rd w v l)(S:l.length<=2000):
  Calls prog 184 #[v] w λe w'=>(∃ C,e=.returned C/\Ow 5 w' w.heap.size C (bN l))/\Kp w w':=by
 have U:=ag;obtain⟨a,c,rfl,h1,V⟩:=h.shape;unfold maxLen at V;have N:=Lib.hid DX;by_cases y:64<l.length
 ·have z:bN l=bH l++List.replicate 32 0:=by unfold bN gZ;rw[if_pos y,iI]
  rw[z];have L:=iI l;have x:64<(l.length:Int):=by omega
  obtain⟨D,M⟩:∃ D,bH l=D:=⟨_,rfl⟩;obtain⟨R,m⟩:∃ R:Nat,R=32:=⟨_,rfl⟩;have O:=Lib.hid (qD (.slice a l.length c) l);rw[M] at L O ⊢;rw[show List.replicate 32 (0:UInt8)=List.replicate R 0 from by rw[m]];have B:Hid (D.length+R=64):=by show _=_;omega
  clear z M L m;go_enter func184,ntmps184;go_wp2_with(at_builtin;refine cj U rfl _ _ rfl w.heap.size _ _ rfl (Ow.lit w 5 w.heap.size 0 #[] [] (IB _) rfl (by decide) rfl) _ l rfl (h.kp ((Kp.refl w).alloc _)) ?d1 ?d2 ?_;rotate_right;intro F w2 E A _;have p:Kp w w2:=Kp.grown ((Kp.refl w).alloc _) A (by intro k e;cases e;exact IB _);clear A)
  case d1=>simp;omega
  case d2=>simp
  refine(O.out _ (h.kp p) S).mono ?_;rintro e P ⟨⟨Q,rfl,s⟩,K⟩;have t:=s.mono p.size;have u:=p.trans K;clear s E p K;go_wp2_with fail;have g:Ow 5 P w.heap.size Q (D++List.replicate 0 0):=by simpa using t
  clear t;go_loopw[3] (λv wr=>∃ k:Nat,k<=R/\Ow 5 wr w.heap.size v (D++List.replicate k 0)/\Kp w wr) (λv _=>match v with|.slice _ n _=>64 - n|_=>0)
  case atStart=>exact⟨0,by omega,g,u⟩
  case round=>
   clear g u;obtain⟨k,T,j,d⟩:=hrel;have H:=d.size;obtain⟨Z,W,rfl,p1,p2⟩:=j.rd.shape;have b:(D++List.replicate k 0).length=D.length+k:=by rw[IE];simp
   rw[b] at p1 ⊢;rw[b] at j;unfold maxLen at p2;by_cases I:k<R
   ·have r:=Lib.hid (N.out D k)
    generalize D++List.replicate k 0=X at *;have o:=Lib.hid b;clear b;have f:=B.out;have q:(D.length:Int)+(k:Int)<64:=by omega
    have G:D.length+k<64:=by omega
    clear f;go_wp2_with(at_builtin;refine cj U rfl _ _ rfl w.heap.size _ _ rfl (j.kp ((Kp.refl _).alloc _)) _ [0] rfl (Ow.lit _ 5 0 1 _ _ (IO _) rfl (by decide) rfl).rd ?c1 ?c2 ?_;rotate_right;intro C w2 i J _)
    case c1=>rw[o.out];simp;omega
    case c2=>simp;omega
    go_roundw
    case rel=>exact⟨k+1,by omega,by rw[<-r.out];exact i,Kp.grown (d.alloc _) J j.own_ge⟩
    case measure=>
     obtain⟨a5,Y,rfl,_⟩:=i.rd.shape;rw[IE,o.out];simp;omega
   ·obtain rfl:k=R:=by omega
    have f:=B.out;have q:¬(D.length:Int)+(k:Int)<64:=by omega
    have G:¬D.length+k<64:=by omega
    clear f b;go_wp2_with fail;go_ret;exact⟨⟨_,rfl,j⟩,d⟩
 ·have z:bN l=l++List.replicate (64 - l.length) 0:=by unfold bN gZ;rw[if_neg y]
  rw[z];have x:¬64<(l.length:Int):=by omega
  obtain⟨R,m⟩:∃ R:Nat,R=64 - l.length:=⟨_,rfl⟩;rw[<-m];have B:Hid (l.length+R=64):=by show _=_;omega
  clear z m;go_enter func184,ntmps184;go_wp2_with(at_builtin;refine cj U rfl _ _ rfl w.heap.size _ _ rfl (Ow.lit w 5 w.heap.size 0 #[] [] (IB _) rfl (by decide) rfl) _ l rfl (h.kp ((Kp.refl w).alloc _)) ?d3 ?d4 ?_;rotate_right;intro F w2 E A _;have p:Kp w w2:=Kp.grown ((Kp.refl w).alloc _) A (by intro k e;cases e;exact IB _);clear A)
  case d3=>omega
  have t:Ow 5 w2 w.heap.size F l:=by simpa using E
  have u:=p;clear E p;have g:Ow 5 w2 w.heap.size F (l++List.replicate 0 0):=by simpa using t
  clear t;go_loopw[3] (λv wr=>∃ k:Nat,k<=R/\Ow 5 wr w.heap.size v (l++List.replicate k 0)/\Kp w wr) (λv _=>match v with|.slice _ n _=>64 - n|_=>0)
  case atStart=>exact⟨0,by omega,g,u⟩
  case round=>
   clear g u;obtain⟨k,T,j,d⟩:=hrel;have H:=d.size;obtain⟨Z,W,rfl,p1,p2⟩:=j.rd.shape;have b:(l++List.replicate k 0).length=l.length+k:=by rw[IE];simp
   rw[b] at p1 ⊢;rw[b] at j;unfold maxLen at p2;by_cases I:k<R
   ·have r:=Lib.hid (N.out l k)
    generalize l++List.replicate k 0=X at *;have o:=Lib.hid b;clear b;have f:=B.out;have q:(l.length:Int)+(k:Int)<64:=by omega
    have G:l.length+k<64:=by omega
    clear f;go_wp2_with(at_builtin;refine cj U rfl _ _ rfl w.heap.size _ _ rfl (j.kp ((Kp.refl _).alloc _)) _ [0] rfl (Ow.lit _ 5 0 1 _ _ (IO _) rfl (by decide) rfl).rd ?c3 ?c4 ?_;rotate_right;intro C w2 i J _)
    case c3=>rw[o.out];simp;omega
    case c4=>simp;omega
    go_roundw
    case rel=>exact⟨k+1,by omega,by rw[<-r.out];exact i,Kp.grown (d.alloc _) J j.own_ge⟩
    case measure=>
     obtain⟨a5,Y,rfl,_⟩:=i.rd.shape;rw[IE,o.out];simp;omega
   ·obtain rfl:k=R:=by omega
    have f:=B.out;have q:¬(l.length:Int)+(k:Int)<64:=by omega
    have G:¬l.length+k<64:=by omega
    clear f b;go_wp2_with fail;go_ret;exact⟨⟨_,rfl,j⟩,d⟩
theorem vV (v:Value)(l:List UInt8)(y:UInt8)(w:World)(h:Rd w v l)(G:l.length<=1000000):
  Calls prog 186 #[v,.int .u8 (y.toNat:Int)] w λe w'=>(∃ n,e=.returned n/\Ow 5 w' w.heap.size n (bG l y))/\Kp w w':=by
 have U:=ag;obtain⟨a,c,rfl,H,E⟩:=h.shape;unfold maxLen at E;have r:∀ k,k<l.length->bG (l.take (k+1)) y=bG (l.take k) y++[l.getD k 0 ^^^ y]:=λk s=>by rw[nH l k s,AG];rfl
 have F:=Lib.hid r;clear r;go_enter func186,ntmps186;go_wp2_with fail;go_loopw[5,6] (λv i wr=>∃ k:Nat,k<=l.length/\i=.int .i64 k/\Ow 5 wr w.heap.size v (bG (l.take k) y)/\Kp w wr) (λ_ i _=>l.length - (intOf i).toNat)
 case atStart=>exact⟨0,by omega,rfl,Ow.nil _ _ _,Kp.refl _⟩
 case round=>
  obtain⟨k,s,rfl,m,f⟩:=hrel;have B:=f.size;by_cases j:k<l.length
  ·obtain⟨b,t,rfl,_,d⟩:=h.at k j
   have D:=f.cell (d k j);have A:=qC (l.getD k 0) y;have g:(bG (l.take k) y).length=k:=by rw[jF];simp;omega
   have p:=Lib.hid (F.out k j);generalize l.getD k 0=x at *;generalize u:x ^^^ y=z at *;generalize bG (l.take k) y=L at *;have q:=Lib.hid g;clear g d u;go_wp2_with(at_builtin;refine cj U rfl _ _ rfl w.heap.size _ _ rfl (m.kp ((Kp.refl _).alloc _)) _ [z] rfl (Ow.lit _ 5 0 1 _ _ (IO _) rfl (by decide) rfl).rd ?c1 ?c2 ?_;rotate_right;intro n w2 o C _)
   case c1=>rw[q.out];simp;omega
   case c2=>simp;omega
   go_roundw
   case rel=>exact⟨k+1,by omega,by go_num,by rw[p.out];exact o,Kp.grown (f.alloc _) C m.own_ge⟩
   case measure=>simp[intOf];omega
  ·obtain rfl:k=l.length:=by omega
   rw[Jz] at m;go_wp2_with fail;go_ret;exact⟨⟨_,rfl,m⟩,f⟩
theorem DZ (d v:Value)(k b:List UInt8)(w:World)(L:Rd w d k)(h:Rd w v b)(m:k.length<=2000)(Y:b.length<=1900):
  Calls prog 151 #[d,v] w λe w'=>(∃ p,e=.returned p/\Ow 5 w' w.heap.size p (eh k b))/\Kp w w':=by
 have U:=ag;obtain⟨av,Z,rfl,X,W⟩:=h.shape;have B:Hid (eh k b=bH (bG (bN k) 92++bH (bG (bN k) 54++b))):=rfl;have a:=Lib.hid (oH k);have c:=Lib.hid (λy:UInt8=>jF (bN k) y);obtain⟨K,u⟩:∃ K,bN k=K:=⟨_,rfl⟩;have A:=Lib.hid (DY d k w L m);rw[u] at a B c A;have C:=Lib.hid iI;clear u;go_enter func151,ntmps151;go_wp2_with fail;refine A.out.mono ?_;rintro e o ⟨⟨V,rfl,s⟩,l⟩;go_wp2_with fail;refine(vV _ K 54 _ s.rd (by rw[a.out];omega)).mono ?_;rintro e w2 ⟨⟨T,rfl,r⟩,j⟩;go_wp2_with(at_builtin;refine cj U rfl _ _ rfl o.heap.size _ _ rfl r _ b rfl ((h.kp l).kp j) ?c1 j.size ?_;rotate_right;intro S E I z _;have i:Kp o E:=Kp.grown j z r.own_ge;clear z)
 case c1=>rw[c.out,a.out];omega
 refine(qD _ _ _ I.rd (by rw[IE,c.out,a.out];omega)).mono ?_;rintro e n ⟨⟨R,rfl,H⟩,g⟩;go_wp2_with fail;refine(vV _ K 92 _ (s.rd.kp (i.trans g)) (by rw[a.out];omega)).mono ?_;rintro e N ⟨⟨Q,rfl,q⟩,f⟩;go_wp2_with(at_builtin;refine cj U rfl _ _ rfl n.heap.size _ _ rfl q _ (bH (bG K 54++b)) rfl (H.rd.kp f) ?c2 f.size ?_;rotate_right;intro P D G x _;have t:Kp n D:=Kp.grown f x q.own_ge;clear x)
 case c2=>rw[c.out,a.out,C.out];omega
 refine(qD _ _ _ G.rd (by rw[IE,c.out,a.out,C.out];omega)).mono ?_;rintro e M ⟨⟨O,rfl,F⟩,J⟩;go_wp2_with fail;go_ret;exact⟨⟨_,rfl,by rw[B.out];exact F.mono (((l.trans i).trans g).trans t).size⟩,(((l.trans i).trans g).trans t).trans J⟩
theorem Rd.grown {w':World}{r:Option Nat}(h:Rd w v l)(a:w.grownBy w' r)(c:In (λb=>some b≠r) v):Rd w' v l:=
 h.held (R:=λb=>some b≠r) ⟨a.size,λk e d=>a.block k e d⟩ c
theorem Rd.takes {a:Option Addr}{m c:Nat}(h:Rd w (.slice a m c) l)(n:Nat)(k:n<=m):Rd w (.slice a n c) (l.take n):=by
 obtain⟨r,q,e,p,j,g,f⟩:=h;simp only[IG] at e;obtain⟨rfl,rfl,rfl⟩:=e;have d:(l.take n).length=n:=by rw[Ja];omega
 exact⟨a,c,by rw[d],by omega,j,g,λx b i o=>by rw[f x b i (by omega),Lr]⟩
theorem Ea (j:Nat):be 1 j=[UInt8.ofNat j]:=by simp[be]
theorem Eb (j:Nat)(h:j<=255):IntKind.u8.wrap (j:Int)=((UInt8.ofNat j).toNat:Int):=by
 rw[JQ,Ko];omega
theorem Ec (s Q:Value)(k info:List UInt8)(n:Nat)(w:World)(hk:Rd w s k)(V:Rd w Q info)(G:k.length<=2000)(af:info.length<=1800)(hn:n<=8160):
  Calls prog 112 #[s,Q,.int .i64 n] w λe w'=>(∃ v,e=.returned (.tuple #[v,.int .i64 0])/\Rd w' v (ib k info n)/\bg w.heap.size v)/\Kp w w':=by
 have U:=ag;obtain⟨ai,ci,rfl,_,_⟩:=V.shape;have d1:decide ((n:Int)<0)=false:=by simp
 have d2:decide (8160<(n:Int))=false:=by simp;omega
 have HC:=Lib.hid (mg (cZ k info) (iK k info));have HS:Hid (∀ j,cT (cZ k info) (j+1)=cT (cZ k info) j++cZ k info j):=λ_=>rfl
 have HT:=Lib.hid (iK k info);have HP:=Lib.hid (tZ k info);have HX:=Lib.hid (tY k info);have HE:Hid (∀ j,eI k info (j+1)=cZ k info j):=λ_=>rfl
 have HF:=Lib.hid (λj h=>qF (cZ k info) (iK k info) n j h);go_enter func112,ntmps112;go_wp2_with fail;go_loopw[8,9,10] (λvo vt p wr=>∃ j:Nat,32*j<n+32/\p=.int .i64 ((j:Int)+1)/\Ow 5 wr w.heap.size vo (cT (cZ k info) j)/\Rd wr vt (eI k info j)/\Kp w wr) (λ_ _ p _=>300 - (intOf p).toNat)
 case atStart=>exact⟨0,by omega,rfl,Ow.nil _ _ _,cR _,Kp.refl _⟩
 case round=>
  obtain⟨j,hj,rfl,d,B,a⟩:=hrel;have aa:=a.size;obtain⟨ao,co,rfl,q1,q2⟩:=d.rd.shape;have q:=HC.out j;unfold maxLen at q2;rw[q] at d q1 ⊢;by_cases ae:32*j<n
  ·have hq:32*(j:Int)<(n:Int):=by omega
   have hp:=HP.out j;have i:=HX.out j;have C:=HS.out j;have X:=HE.out j;have l:=HT.out j;have H:j+1<=255:=by omega
   have Y:=Eb (j+1) H;have r:=Ea (j+1);rw[Int.natCast_add,Int.natCast_one] at Y;rw[r] at i;obtain⟨x,A⟩:∃ x,UInt8.ofNat (j+1)=x:=⟨_,rfl⟩;rw[A] at Y i;obtain⟨T,Z⟩:∃ T,eI k info j=T:=⟨_,rfl⟩;obtain⟨L,hL⟩:∃ L,cT (cZ k info) j=L:=⟨_,rfl⟩;rw[Z] at B hp i;rw[hL] at d q C;have J:=Lib.hid i;have M:=Lib.hid C;have O:=Lib.hid X;have K:=Lib.hid l;have I:=V.kp a;have F:=hk.kp a;clear i C X r Z hL l;go_wp2_with(at_builtin;first
    | (refine cj (o:=⟨some 26,_,_,_,_,_⟩) U rfl _ _ rfl wr.heap.size _ _ rfl (Ow.lit wr 5 wr.heap.size 0 #[] [] (IB _) rfl (by decide) rfl) _ T rfl (B.kp ((Kp.refl _).alloc _)) (by simp;omega) (by simp) ?_;intro v1 x1 u g1 _;have z:Kp wr x1:=Kp.grown ((Kp.refl wr).alloc _) g1 (by intro k e;cases e;exact IB _);rw[Js] at u)
    | (refine cj (o:=⟨some 28,_,_,_,_,_⟩) U rfl _ _ rfl wr.heap.size _ _ rfl u _ info rfl (I.kp z) (by omega) z.size ?_;intro v2 P R g2 _;have S:Kp wr P:=Kp.grown z g2 u.own_ge)
    | (refine cj (o:=⟨some 32,_,_,_,_,_⟩) U rfl _ _ rfl wr.heap.size _ _ rfl (R.kp ((Kp.refl _).alloc _)) _ [x] rfl (Rd.box P 5 _ x rfl) (by rw[IE];simp;omega) (S.alloc _).size ?_;intro v3 x3 o3 g3 _;have y:Kp wr x3:=Kp.grown (S.alloc _) g3 R.own_ge))
   have E:(T++info++[x]).length<=1900:=by rw[IE,IE];simp;omega
   refine(DZ s v3 k (T++info++[x]) _ (F.kp y) o3.rd G E).mono ?_;rw[<-J.out];rintro e x4 ⟨⟨v4,rfl,t⟩,k4⟩;have f:=y.trans k4;go_wp2_with(at_builtin;first
    | (refine cj (o:=⟨some 38,_,_,_,_,_⟩) U rfl _ _ rfl w.heap.size _ L rfl (d.kp f) _ (cZ k info j) rfl t.rd (by rw[K.out];omega) (a.trans f).size ?_;intro v5 x5 o5 g5 _;have D:=t.rd.grown g5 (λb o n' c e e2=>by have h1:=t.own_ge b (by rw[e];rfl);have h2:=d.lt b e2.symm;have h3:=y.size;omega);have k5:Kp w x5:=Kp.grown (a.trans f) g5 d.own_ge))
   go_roundw
   case rel=>exact⟨j+1,by omega,by go_num,by rw[M.out];exact o5,by rw[O.out];exact D,k5⟩
   case measure=>simp[intOf];omega
  ·have hq:¬32*(j:Int)<(n:Int):=by omega
   have m:=HF.out j (by omega);have N:=Lib.hid m;clear m B;have ab:(n:Int)<=32*(j:Int):=by omega
   have ad:(n:Int)<=(co:Int):=by omega
   go_wp2_with fail;go_ret2;exact⟨⟨_,rfl,by rw[show ib k info n=(cT (cZ k info) j).take n from N.out];exact d.rd.takes n (by omega),λg W=>d.own_ge g (by cases ao with|none=>exact W|some x=>exact W)⟩,a⟩
theorem Ed (c d:Value)(k info:List UInt8)(n:Int)(w:World)(j:Rd w c k)(l:Rd w d info)(f:k.length<=2000)(g:info.length<=1800):
  Calls prog 112 #[c,d,.int .i64 n] w λe w'=>(∃ v,e=.returned (.tuple #[v,.int .i64 (fe n)])/\Rd w' v (ic k info n)/\bg w.heap.size v)/\Kp w w':=by
 by_cases i:n<0
 ·have a:=jH k info (.inl i)
  rw[a.1,a.2];have m:decide (n<0)=true:=by simp[i]
  go_enter func112,ntmps112;go_wp2_with fail;go_ret2;exact⟨⟨_,rfl,cR _,bg.nil _ _ _⟩,Kp.refl _⟩
 ·by_cases h:8160<n
  ·have a:=jH k info (.inr h)
   rw[a.1,a.2];have m:decide (n<0)=false:=by simp;omega
   have o:decide (8160<n)=true:=by simp[h]
   go_enter func112,ntmps112;go_wp2_with fail;go_ret2;exact⟨⟨_,rfl,cR _,bg.nil _ _ _⟩,Kp.refl _⟩
  ·obtain⟨n,rfl⟩:=IR (show 0<=n by omega)
   have b:=kN k info (show(n:Int)<=8160 by omega);rw[b.1,b.2];exact Ec c d k info n w j l f g (by omega)
theorem vW (u:Value)(s:ByteArray)(A:Value)(k a:List UInt8)(n:Int)(w:World)(hk:Rd w u k)(hc:Rd w A a)(hs:s.size<=300)(M:a.length<=1400)(J:k.length<=2000):
  Calls prog 63 #[u,.string s,A,.int .i64 n] w λe w'=>(∃ v,e=.returned (.tuple #[v,.int .i64 (fe n)])/\Rd w' v (cL k s.data.toList a n)/\bg w.heap.size v)/\Kp w w':=by
 have U:=ag;have G:s.data.toList.length=s.size:=rfl;by_cases T:n<0
 ·have f:=jH k (cN s.data.toList a n.toNat) (.inl T)
  unfold cL;rw[f.1,f.2];have d1:decide (n<0)=true:=by simp[T]
  go_enter func63,ntmps63;go_wp2_with fail;go_ret2;exact⟨⟨_,rfl,cR _,bg.nil _ _ _⟩,Kp.refl _⟩
 ·by_cases R:8160<n
  ·have f:=jH k (cN s.data.toList a n.toNat) (.inr R)
   unfold cL;rw[f.1,f.2];have d1:decide (n<0)=false:=by simp;omega
   have d2:decide (8160<n)=true:=by simp[R]
   go_enter func63,ntmps63;go_wp2_with fail;go_ret2;exact⟨⟨_,rfl,cR _,bg.nil _ _ _⟩,Kp.refl _⟩
  ·obtain⟨n,rfl⟩:=IR (show 0<=n by omega)
   have h:=qM s.data.toList a n (by omega) M;have HR:Hid (cL k s.data.toList a n=ic k (cN s.data.toList a n) n):=rfl;have m:eH (n:Int) 2:=⟨by omega,by omega,by omega,by have:(256:Int) ^ (2:Int).toNat=65536:=(by decide);omega⟩;have V:=iZ m;have r:eP (n:Int) 2=be 2 n:=by rw[V.2];rfl
   have i:=Lib.hid (λW=>uk n 2 W (by omega));rw[V.1,r] at i;have e3:=ko (x:=dn++s.data.toList) (by rw[IE,G];simp[dn];omega);have z:=ko (x:=a) (by omega);have d:=Lib.hid (λW v Q=>uo v (dn++s.data.toList) W Q);have c:=Lib.hid (λW Q=>uo A a W Q);rw[e3.1] at d;rw[z.1] at c;have ab:=λW (S:ByteArray)=>Lib.run_convert_string_bytes (P:=prog) W 9 24 5 S underlying9 underlying24 underlying5
   have HI:Hid (cN s.data.toList a n=be 2 n++aO (dn++s.data.toList)++aO a):=rfl;have I:(be 2 n).length=2:=bT _ _;have p:(be 2 n).length+(aO (dn++s.data.toList)).length+(aO a).length<=1800:=by rw[HI.out,IE,IE] at h;exact h
   have g:(⟨#[77,76,83,32,49,46,48,32]⟩++s:ByteArray).size=8+s.size:=by rw[ByteArray.size_append];rfl
   have q:(⟨#[77,76,83,32,49,46,48,32]⟩++s:ByteArray).data.toList=dn++s.data.toList:=by rw[ByteArray.data_append,Array.toList_append];rfl
   have H:=Lib.hid (λW=>show Rd (Lib.bytesWorld W 5 (⟨#[77,76,83,32,49,46,48,32]⟩++s)) (.slice (some ⟨W.heap.size,0,none⟩) (8+s.size) (grownCap W (8+s.size) 0 5)) (dn++s.data.toList) from by
    have:=ut W 5 (⟨#[77,76,83,32,49,46,48,32]⟩++s) (by rw[g];omega);rw[q,g] at this;exact this)
   have K:=Lib.hid (λW=>ur W 5 (⟨#[77,76,83,32,49,46,48,32]⟩++s));have HD:=Lib.hid g;have d1:decide ((n:Int)<0)=false:=by simp
   have d2:decide (8160<(n:Int))=false:=by simp;omega
   have t:=Lib.hid p;have HX:=Lib.hid (λW B (L:Rd W u k) (h5:Rd W B (cN s.data.toList a n))=>Ed u B k (cN s.data.toList a n) n W L h5 J h);clear m V r e3 z h g q p I;rw[HR.out];go_enter func63,ntmps63;go_wp2_with(first
    | (go_at_call 62;refine(i.out _).mono ?_;rintro e X ⟨v1,rfl,y,k1⟩;obtain⟨a1,n1,c1,rfl⟩:=y.rd.sl))
   refine(d.out _ _ (H.out X)).mono ?_;rintro e w2 ⟨v2,rfl,Z,k2⟩;obtain⟨a2,n2,c2,rfl⟩:=Z.rd.sl;have E:=(K.out X).trans k2;have aa:=E.size;have N:=(hc.kp k1).kp E;go_wp2_with fail;refine(c.out _ N).mono ?_;rintro e w3 ⟨v3,rfl,C,k3⟩;obtain⟨a3,n3,c3,rfl⟩:=C.rd.sl;have l:=E.trans k3;have j:=k1.trans l;have r2:=Z.rd.kp k3;have D:=y.kp l;have O:∀ b,(Value.slice a1 n1 c1).ownBlock=some b->b<w2.heap.size:=λb e=>by have:=y.lt b e;omega
   go_wp2_with(at_builtin;first
    | (refine cj (o:=⟨some 42,_,_,_,_,_⟩) U rfl _ _ rfl w.heap.size _ (be 2 n) rfl D _ (aO (dn++s.data.toList)) rfl r2 (by have:=t.out;omega) j.size ?_;intro v4 w4 Y g4 _;have r3:=C.rd.grown g4 (λb o n' c' e z=>by have T:=C.own_ge b (by rw[e];rfl);have R:=O b z.symm;omega);have k4:Kp w w4:=Kp.grown j g4 y.own_ge)
    | (refine cj (o:=⟨some 44,_,_,_,_,_⟩) U rfl _ _ rfl w.heap.size _ (be 2 n++aO (dn++s.data.toList)) rfl Y _ (aO a) rfl r3 (by have:=t.out;rw[IE];omega) k4.size ?_;intro B w5 o5 g5 _;have F:Kp w w5:=Kp.grown k4 g5 Y.own_ge))
   refine(HX.out _ _ (hk.kp F) (by rw[HI.out];exact o5.rd)).mono ?_;rintro e w6 ⟨⟨v6,rfl,r6,n6⟩,k6⟩;go_wp2_with fail;go_ret2;exact⟨⟨_,rfl,r6,n6.kp F⟩,F.trans k6⟩
theorem Ee (a:Value)(s:ByteArray)(k:List UInt8)(w:World)(i:Rd w a k)(h:s.size<=300)(c:k.length<=2000):
  Calls prog 81 #[a,.string s] w λe w'=>(∃ v,e=.returned (.tuple #[v,.int .i64 0])/\Rd w' v (ib k (cN s.data.toList [] 32) 32)/\bg w.heap.size v)/\Kp w w':=by
 have f:=Lib.hid (vW a s (.slice none 0 0) k [] 32 w i (cR w) h (by simp) c);have l:fe 32=0:=rfl;have j:cL k s.data.toList [] 32=ib k (cN s.data.toList [] 32) 32:=rfl;rw[l,j] at f;go_enter func81,ntmps81;go_wp2_with(first|(go_at_call 63;refine f.out.mono ?_;rintro e m ⟨⟨n,rfl,d,b⟩,g⟩;obtain⟨q,o,p,rfl⟩:=d.sl))
 go_ret2;exact⟨⟨_,rfl,d,b⟩,g⟩
theorem Fq (x:Int)(w:World)(b:-9223372036854775808<=x/\x<=9223372036854775807)(a:Tab w):
  Calls prog 119 #[.int .i64 x] w λe w'=>e=.returned (.tuple #[.int .i64 (loV x),.int .i64 (hiV x)])/\Kp w w':=
 (Fm x w a).mono (by rintro _ _ ⟨rfl,rfl⟩;exact⟨rfl,Kp.refl _⟩)
def iy (t:List Nod):Nat:=if bU ((lvs t:Nat):Int)=true/\2*lvs t=t.length+1 then lvs t else 0
theorem ns {t:List Nod}{K:Nat}(b:K<=10)(h:t.length=2 ^ (K+1) - 1):iy t=2 ^ K/\lvs t=2 ^ K:=by
 have d:=bj K;have c:=bC K;have a:lvs t=2 ^ K:=by unfold lvs;omega
 refine⟨?_,a⟩;unfold iy;rw[a,if_pos ⟨jZ K b,by omega⟩]
end Go.Proofs.YthmhklmkgkfcpaaGreatDoor
namespace Go.Proofs
open Go.Shelf
def Tryz.lays189_ren:Go.Shelf.Ren:=⟨fun|189=>148|125=>183|257=>182|128=>221|129=>222|294=>212|295=>213|296=>214|297=>215|298=>216|299=>217|216=>218|300=>219|301=>220|328=>251|329=>252|330=>253|331=>254|332=>255|215=>256|343=>269|n=>n,fun|28=>34|3=>3|46=>205|0=>0|51=>247|53=>249|4=>4|183=>241|182=>240|131=>143|5=>5|9=>9|218=>270|222=>274|228=>288|229=>69|n=>n,fun|n=>n⟩
theorem Tryz.lays189:Go.Proofs.Lays.n189 Tryz.prog Tryz.lays189_ren:={
 mixed:=by kernel_rfl
 f125:=Tryz.func183.trans (congrArg some (by kernel_rfl))
 f128:=Tryz.func221.trans (congrArg some (by kernel_rfl))
 f129:=Tryz.func222.trans (congrArg some (by kernel_rfl))
 f189:=Tryz.func148.trans (congrArg some (by kernel_rfl))
 f215:=Tryz.func256.trans (congrArg some (by kernel_rfl))
 f216:=Tryz.func218.trans (congrArg some (by kernel_rfl))
 f257:=Tryz.func182.trans (congrArg some (by kernel_rfl))
 f294:=Tryz.func212.trans (congrArg some (by kernel_rfl))
 f295:=Tryz.func213.trans (congrArg some (by kernel_rfl))
 f296:=Tryz.func214.trans (congrArg some (by kernel_rfl))
 f297:=Tryz.func215.trans (congrArg some (by kernel_rfl))
 f298:=Tryz.func216.trans (congrArg some (by kernel_rfl))
 f299:=Tryz.func217.trans (congrArg some (by kernel_rfl))
 f300:=Tryz.func219.trans (congrArg some (by kernel_rfl))
 f301:=Tryz.func220.trans (congrArg some (by kernel_rfl))
 f328:=Tryz.func251.trans (congrArg some (by kernel_rfl))
 f329:=Tryz.func252.trans (congrArg some (by kernel_rfl))
 f330:=Tryz.func253.trans (congrArg some (by kernel_rfl))
 f331:=Tryz.func254.trans (congrArg some (by kernel_rfl))
 f332:=Tryz.func255.trans (congrArg some (by kernel_rfl))
 f343:=Tryz.func269.trans (congrArg some (by kernel_rfl))
 t0:=Tryz.underlying0
 a0:=Tryz.isAgg0
 z0:=Tryz.sizeOf0
 v0:=Tryz.zeroValue0
 t3:=Tryz.underlying3
 a3:=Tryz.isAgg3
 z3:=Tryz.sizeOf3
 v3:=Tryz.zeroValue3
 t4:=Tryz.underlying4
 a4:=Tryz.isAgg4
 z4:=Tryz.sizeOf4
 v4:=Tryz.zeroValue4
 t5:=Tryz.underlying5
 a5:=Tryz.isAgg5
 z5:=Tryz.sizeOf5
 v5:=Tryz.zeroValue5
 t9:=Tryz.underlying9
 a9:=Tryz.isAgg9
 z9:=Tryz.sizeOf9
 v9:=Tryz.zeroValue9
 t28:=Tryz.underlying34
 a28:=Tryz.isAgg34
 z28:=Tryz.sizeOf34
 v28:=Tryz.zeroValue34
 t46:=Tryz.underlying205
 a46:=Tryz.isAgg205
 z46:=Tryz.sizeOf205
 v46:=Tryz.zeroValue205
 t51:=Tryz.underlying247
 a51:=Tryz.isAgg247
 z51:=Tryz.sizeOf247
 v51:=Tryz.zeroValue247
 t53:=Tryz.underlying249
 a53:=Tryz.isAgg249
 z53:=Tryz.sizeOf249
 v53:=Tryz.zeroValue249
 t131:=Tryz.underlying143
 a131:=Tryz.isAgg143
 z131:=Tryz.sizeOf143
 v131:=Tryz.zeroValue143
 t182:=Tryz.underlying240
 a182:=Tryz.isAgg240
 z182:=Tryz.sizeOf240
 v182:=Tryz.zeroValue240
 t183:=Tryz.underlying241
 a183:=Tryz.isAgg241
 z183:=Tryz.sizeOf241
 v183:=Tryz.zeroValue241
 t218:=Tryz.underlying270
 a218:=Tryz.isAgg270
 z218:=Tryz.sizeOf270
 v218:=Tryz.zeroValue270
 t222:=Tryz.underlying274
 a222:=Tryz.isAgg274
 z222:=Tryz.sizeOf274
 v222:=Tryz.zeroValue274
 t228:=Tryz.underlying288
 a228:=Tryz.isAgg288
 z228:=Tryz.sizeOf288
 v228:=Tryz.zeroValue288
 t229:=Tryz.underlying69
 a229:=Tryz.isAgg69
 z229:=Tryz.sizeOf69
 v229:=Tryz.zeroValue69 }
open Go.Sort Go.RowKit in
theorem Tryz.slices_Sort_int (a b f:Nat)(c:List Int)(w:World)(i:Holds (Value.int .i64) w a b c.toArray)(d:a<w.heap.size)(g:c.length<4611686018427387904):
 Calls Tryz.prog 148 #[.slice (some ⟨a,b,none⟩) c.length f] w λe w'=>
  e=.returned (.tuple #[])/\∃ n h,w'=grow (putRow (Value.int .i64) (Sort.ahead w n) a b (c.mergeSort λx y=>decide (x<=y)).toArray) h:=Any.slices_Sort_int Tryz.lays189 a b f c w i d g
open Go.RowKit Go.Sort in
theorem Tryz.slices_Sort_int_none (p:Option Addr)(a:Nat)(w:World):
 Calls Tryz.prog 148 #[.slice p 0 a] w λe w'=>e=.returned (.tuple #[])/\w'=w:=Any.slices_Sort_int_none Tryz.lays189 p a w
def Tryz.laysnb115_ren:Go.Shelf.Ren:=⟨fun|115=>52|n=>n,fun|37=>24|4=>4|9=>9|5=>5|n=>n,fun|n=>n⟩
theorem Tryz.laysnb115:Go.Proofs.Lays.nb115 Tryz.prog Tryz.laysnb115_ren:={
 mixed:=by kernel_rfl
 f115:=Tryz.func52.trans (congrArg some (by kernel_rfl))
 t4:=Tryz.underlying4
 a4:=Tryz.isAgg4
 z4:=Tryz.sizeOf4
 v4:=Tryz.zeroValue4
 t9:=Tryz.underlying9
 a9:=Tryz.isAgg9
 z9:=Tryz.sizeOf9
 v9:=Tryz.zeroValue9
 t37:=Tryz.underlying24
 a37:=Tryz.isAgg24
 z37:=Tryz.sizeOf24
 v37:=Tryz.zeroValue24
 t5:=Tryz.underlying5
 a5:=Tryz.isAgg5
 z5:=Tryz.sizeOf5
 v5:=Tryz.zeroValue5 }
theorem Tryz.bytes_Equal_all (p1 p2:Option Addr)(n c m d:Nat)(xs a:List Int)(w:World)(f:xs.length=n)(b:a.length=m)(h:Lib.BytesIn w p1 n xs)(g:Lib.BytesIn w p2 m a):
 Calls Tryz.prog 52 #[.slice p1 n c,.slice p2 m d] w λe w'=>e=.returned (.bool (Lib.bytesOf xs==Lib.bytesOf a))/\w'=w:=Any.bytes_Equal_all Tryz.laysnb115 p1 p2 n c m d xs a w f b h g
