import Derived.Test.YthmhklmkgkfcpaaGreatDoorV24
set_option linter.all false
set_option maxHeartbeats 8000000
set_option maxRecDepth 100000
namespace Go.Proofs.YthmhklmkgkfcpaaGreatDoor
open Go.Proofs.Tryz Go.RowKit
variable {A B w0:World}{H P U:Nat->Value}{N a c f g u:Nat}{Y:Nat->Prop}{s:List Nod × List UInt8}
attribute [local go_sem] Oper.semAt_some
structure eE (w0:World)(B6 B7 B10 g N c:Nat)(lf:Int)(s:List Nod × List UInt8)(Y:Nat->Prop)(A:World)(rt:Value)(P U H:Nat->Value):Prop where
 mk ::
 out:Boxed A B6 22 (.slice (some ⟨g,0,none⟩) N c)
 leaf:Boxed A B7 3 (.int .i64 lf)
 box:Boxed A B10 24 rt
 told:Rd A rt s.2
 tfree:bk (λk=>Y k\/k=g\/k=B10) rt
 row:NX 81 3 A w0.heap.size (.slice (some ⟨g,0,none⟩) N c) s.1 P U H (λ_=>False)
 free:iD (λk=>Y k\/k=B10) s.1.length P U H
 kp:Kp w0 A
 ord:w0.heap.size<=g/\g<B6/\B6<B7/\B7<B10
def Gx (J:World->Prop)(A:World)(Z:Nat->Prop)(e:Exit)(B:World):Prop:=e=.normal/\J B/\aN Z A B
theorem eE.minds {v:Nat}{r:Int}{q:Nat}(C:a<q):dw q (λY A=>∃ f P U H,eE w0 v u a g N c r s Y A f P U H):=by
 rintro Y p A B ⟨f,P,U,H,h⟩ o d n;obtain⟨z,y,x,w⟩:=h.ord;have e:∀ k,k<=a->¬Y k:=λk b t=>by have:=o k t;omega
 have m:kg (λk=>Y k\/k=g\/k=a) (λk=>p k\/k=g\/k=a) A B:=λk b=>by
  rcases b with b|b
  ·exact(n k b).imp .inl id
  ·exact .inl (.inr b)
 have l:kg (λk=>Y k\/k=a) (λk=>p k\/k=a) A B:=λk b=>by
  rcases b with b|b
  ·exact(n k b).imp .inl id
  ·exact .inl (.inr b)
 exact⟨f,P,U,H,⟨(d.block _ h.out.lt (e _ (by omega))).trans h.out,(d.block _ h.leaf.lt (e _ (by omega))).trans h.leaf,(d.block _ h.box.lt (e _ (by omega))).trans h.box,
  h.told.stepF d (h.tfree.mono λk=>.inl),h.tfree.grew h.told.inside m,h.row.stepF d (e _ (by omega)) (λj i=>⟨(h.free j i).1.mono λk=>.inl,(h.free j i).2.1.mono λk=>.inl,(h.free j i).2.2.mono λk=>.inl⟩),
  iD.grew h.row h.free l,Below.trans h.kp (d.below h.kp.size (λk b=>by have:=o k b;omega)),h.ord⟩⟩
theorem eE.rehash {m l k:Nat}{i:Int}{a:Value}(h:eE w0 m l f g N c i s Y A a P U H)(j:k<s.1.length):
  eE w0 m l f g N c i (s.1.set k (dA (ats s.1 k) s.2),s.2) Y (A.setCell ⟨g,k*5+4,none⟩ a) a (upd P k (P k)) (upd U k (U k)) (upd H k a):=by
 obtain⟨n,q,p,o⟩:=h.ord;have d:∀ b,b≠g->(A.setCell ⟨g,k*5+4,none⟩ a).heap[b]?=A.heap[b]?:=λb d=>Below.heap_setCell A _ _ b d
 refine⟨(d _ (by omega)).trans h.out,(d _ (by omega)).trans h.leaf,(d _ (by omega)).trans h.box,h.told.stepF (Y:=λk=>k=g) ((aj.refl _ A).setCell _ _ (.inr rfl)) (h.tfree.mono λk e=>.inr (.inl e)),h.tfree,
  h.row.rehash j h.told (h.tfree.mono λk e=>.inr (.inl e)),?_,h.kp.setNew n _,h.ord⟩
 rw[IW];exact h.free.upd (h.tfree.mono λk e=>e.imp id .inr) j
theorem eE.kpI {e:Nat}{d:Int}{b:Value}(h:eE w0 f e a g N c d s Y A b P U H)(k:Kp A B):eE w0 f e a g N c d s Y B b P U H:=
 ⟨(k.block _ h.out.lt).trans h.out,(k.block _ h.leaf.lt).trans h.leaf,(k.block _ h.box.lt).trans h.box,h.told.kp k,h.tfree,h.row.kp k,h.free,h.kp.trans k,h.ord⟩
theorem eE.tell {t C:Nat}{o:Int}{v r:Value}{l:List UInt8}(h:eE w0 u t a g N c o s Y A v P U H)(k:Kp A B)(q:Ow 5 B C r l)(L:A.heap.size<=C)(z:∀ k,Y k->k<A.heap.size):
  eE w0 u t a g N c o (s.1,l) Y (B.setCell ⟨a,0,none⟩ r) r P U H:=by
 obtain⟨K,J,I,G⟩:=h.ord;have y:=h.box.lt;have d:=h.kpI k;have m:∀ b,b≠a->(B.setCell ⟨a,0,none⟩ r).heap[b]?=B.heap[b]?:=λb m=>Below.heap_setCell B _ _ b m
 have i:aj (λk=>k=a) B (B.setCell ⟨a,0,none⟩ r):=(aj.refl _ B).setCell _ _ (.inr rfl);have p:∀ x n c,r=.slice (some x) n c->A.heap.size<=x.block:=λx n c e=>by have:=q.own_ge x.block (by rw[e];rfl);omega
 refine⟨(m _ (by omega)).trans d.out,(m _ (by omega)).trans d.leaf,d.box.set r,q.rd.stepF i (λx n c e _ f=>by have:=p x n c e;omega),λx n c e _ f=>?_,d.row.stepF i (by omega) (λj w=>?_),h.free,d.kp.setNew (by omega) _,h.ord⟩
 ·have M:=p x n c e
  rcases f with f|f|f
  ·have:=z _ f;omega
  ·omega
  ·omega
 ·obtain⟨F,E,D⟩:=h.free j w
  exact⟨F.mono λk e=>.inr e,E.mono λk e=>.inr e,D.mono λk e=>.inr e⟩
theorem Gy (g:Value)(t:List Nod)(K:Nat)(i:Int)(w:World)(l:bq t K)(m:az t K)(k:NL w g t)(h:¬bd t i):
  Calls prog 106 #[g,.int .i64 i] w λe w'=>(∃ r,e=.returned (.tuple #[r,.int .i64 11])/\NL w' r t)/\Kp w w':=by
 obtain⟨u,s,o⟩:=m.small;have f:=Lib.hid (yf g t w k o (by omega) (λx j=>⟨by have:=(l.node x).pub;omega,by have:=(l.node x).unl;omega,by have:=(l.node x).hash;omega⟩));have d:=Lib.hid (λW (y:Kp w W)=>xy g t K i W (k.kp y) m);rw[IS h] at d;obtain⟨a,c,rfl,_,_⟩:=k.shape;generalize z:t.length=N at f d ⊢;clear l m k h u s o z;go_enter func106,ntmps106;go_wp2_with fail;refine f.out.mono ?_;rintro _ p ⟨⟨C,P,U,H,rfl,j⟩,q⟩;have n:=Lib.hid (IC j.no.nl q);obtain⟨B,v,A,rfl⟩:=j.no.nl.sl;clear j q;go_wp2_with fail;have b:Hid (Kp p (p.alloc (.cells #[.slice B v A] 22))):=(Kp.refl _).alloc _;refine(d.out _ (n.out.2.trans b.out)).mono ?_;rintro _ _ ⟨rfl,rfl⟩;go_wp2_with fail;go_ret2;exact⟨⟨_,rfl,n.out.1.kp b.out⟩,n.out.2.trans b.out⟩
theorem Gz (vt:Value)(t:List Nod)(K i:Nat)(w:World)(hT:bq t K)(hr:az t K)(ht:NL w vt t)(M:Tab w)(hi:i<2 ^ K)(h:bd t (i:Int)):
  Calls prog 106 #[vt,.int .i64 (i:Int)] w λe w'=>(∃ r,e=.returned (.tuple #[r,.int .i64 0])/\NL w' r (eA t (i:Int)))/\Kp w w':=by
 obtain⟨z1,z2,z3⟩:=hr.small;have hK:=hr.le;have a5:=Lib.hid (yf vt t w ht z3 (by omega) (λx hx=>⟨by have:=(hT.node x).pub;omega,by have:=(hT.node x).unl;omega,by have:=(hT.node x).hash;omega⟩));have aA:=Lib.hid (λW (I:Kp w W)=>xy vt t K (i:Int) W (ht.kp I) hr);rw[IY h] at aA;have ap:=Lib.hid (λW (I:Kp w W)=>xx vt t W (ht.kp I) (by omega));rw[(ns hr.le hr.len).1] at ap;have aD:Hid (∀ W,Kp w W->Calls prog 92 #[.int .i64 ((2*i:Nat):Int),.int .i64 ((2 ^ K:Nat):Int)] W λe w'=>(∃ v,e=.returned (.tuple #[v,.int .i64 0])/\ON 3 w' W.heap.size v (aC K 0 i))/\Kp W w'):=λW I=>by
  have:=xw K 0 i W hr.le (IO _) (by simpa using hi) (M.kp I);rwa [ep] at this
 have bM:=bY hr.le;have i1:IntKind.i64.wrap (2*(i:Int))=((2*i:Nat):Int):=by rw[IA _ (by omega)];omega
 obtain⟨q1,q2,q3⟩:=mK hr.le hr.len hi;obtain⟨u,aQ⟩:∃ u:Int,((2*i:Nat):Int)=u:=⟨_,rfl⟩;rw[aQ] at aD i1;have bE:=Lib.hid aQ;clear aQ;obtain⟨NN,bp⟩:∃ NN:Int,((2 ^ K:Nat):Int)=NN:=⟨_,rfl⟩;rw[bp] at aD ap;clear bp;obtain⟨a,c,rfl,_,_⟩:=ht.shape;have bx:=Lib.hid (IC M ht);generalize hN:t.length=N at a5 aA ap bx ⊢;refine(callsIn_wide (n:=4)).1 ?_;refine callsIn_of_wp_marks func106 rfl trivial ?_ rfl;refine wpIn_wide.2 ?_;simp only[ntmps106,JE,JF,Jq,Jf,Nat.reduceAdd,Nat.reduceSub,JB,JC,JM,Js,JG];go_wp2_with fail;refine a5.out.mono ?_;rintro _ q ⟨⟨v1,P,U,H,rfl,hx⟩,k1⟩;obtain⟨g,E,rfl,g1,g2,_⟩:=hx.no.form z3;rw[hN] at hx ⊢;have HX:=Lib.hid (hx.weak (S':=λ_=>False) (λ_ _ h=>h.elim));have HG:=Lib.hid (IC g1 g2);have K1:=Lib.hid k1;clear hx k1 g1 g2;go_wp2_with fail;obtain⟨w2,ad⟩:∃ w2,q.alloc (.cells #[.slice (some ⟨g,0,none⟩) N E] 22)=w2:=⟨_,rfl⟩;have aw:Boxed w2 q.heap.size 22 (.slice (some ⟨g,0,none⟩) N E):=by rw[<-ad];exact Boxed.new _ _ _
 have k2:Kp q w2:=by rw[<-ad];exact(Kp.refl _).alloc _
 have s2:w2.heap.size=q.heap.size+1:=by rw[<-ad];simp
 rw[ad];clear ad;refine(aA.out _ (K1.out.trans k2)).mono ?_;rintro _ _ ⟨rfl,rfl⟩;go_wp2_with fail;obtain⟨F,ab⟩:∃ F,w2.alloc (.cells #[.int .i64 u] 3)=F:=⟨_,rfl⟩;have av:Boxed F w2.heap.size 3 (.int .i64 u):=by rw[<-ab];exact Boxed.new _ _ _
 have k3:Kp w2 F:=by rw[<-ab];exact(Kp.refl _).alloc _
 have s3:F.heap.size=w2.heap.size+1:=by rw[<-ab];simp
 rw[ab];rw[s2] at av s3;clear ab;have L:=Lib.hid (IC (aw.alloc (.cells #[.int .i64 u] 3)) av);have h6:Boxed F q.heap.size 22 (.slice (some ⟨g,0,none⟩) N E):=(k3.block _ aw.lt).trans aw;have L:=Lib.hid (IC h6 av);have K3:=Lib.hid (IC (k2.trans k3) s3);have aV:Hid (Kp w F.drew):=(K1.out.trans K3.out.1).drew;have C:Hid (∀ W,Kp F W->W.cell? ⟨q.heap.size+1,0,none⟩=some (.int .i64 u)):=λW I=>I.cell L.out.2.cell
 have bz:=Lib.hid (C.out _ (Kp.drew (Kp.refl F)));clear h6 aw av k2 k3 s2 s3 aA a5;go_region_held3 (λW=>W.cell? ⟨q.heap.size+1,0,none⟩=some (.int .i64 u))
  (first|with_reducible exact bz.out|with_reducible exact S4.out)
  (first
   | (go_at_call 92;refine(aD.out _ aV.out).mono ?_;rintro _ s ⟨⟨r4,rfl,o4⟩,k4⟩;obtain⟨a4,p,b4,rfl⟩:=(ON.rn o4).sl;have S4:=Lib.hid (C.out _ ((Kp.drew (Kp.refl F)).trans k4)))
   | (go_at_call 143;refine(ap.out _ aV.out).mono ?_;rintro _ _ ⟨rfl,rfl⟩))
 have K4:Hid (Kp F s):=(Kp.drew (Kp.refl F)).trans k4;have O4:=Lib.hid o4;clear bz S4 C ap aD o4 k4;go_wp2_with fail;obtain⟨w5,aa⟩:∃ w5,s.alloc (.cells #[.slice none 0 0] 24)=w5:=⟨_,rfl⟩;have ai:Boxed w5 s.heap.size 24 (.slice none 0 0):=by rw[<-aa];exact Boxed.new _ _ _
 have k5:Kp s w5:=by rw[<-aa];exact(Kp.refl _).alloc _
 have s5:w5.heap.size=s.heap.size+1:=by rw[<-aa];simp
 rw[aa];clear aa;refine(Gv _ _ _ _).mono ?_;rintro _ T ⟨rfl,au⟩;have bj:Boxed T w5.heap.size 34 (.slice a4 p b4):=by rw[<-au];exact Boxed.new _ _ _
 have k6:Kp w5 T:=by rw[<-au];exact(Kp.refl _).alloc _
 have s6:T.heap.size=w5.heap.size+1:=by rw[<-au];simp
 clear au;obtain⟨bL,af⟩:p=K/\∀ k,k<K->(aC K 0 i).getD k 0<N/\(aC K 0 i).getD k 0 % 2=1:=by
  have hl:(aC K 0 i).length=K:=by rw[<-q1];exact q3
  obtain⟨_,_,e,_⟩:=(ON.rn O4.out).shape;simp only[IG] at e;refine⟨by omega,λk d=>⟨?_,?_⟩⟩
  ·have:=q2 k (by omega)
   rw[q1] at this;omega
  ·rw[Iw,Iy (by omega)]
   exact eO (Jg _)
 subst bL;have ax:(aC p 0 i).length=p:=by rw[<-q1];exact q3
 obtain⟨gP,V,bo,bn⟩:∃ gP V,(0<p->a4=some ⟨gP,V,none⟩/\∀ k,k<p->T.cell? ⟨gP,V+k,none⟩=some (.int .i64 (((aC p 0 i).getD k 0:Nat):Int)))/\(gP=s.heap.size+1\/(q.heap.size+2<=gP/\gP<s.heap.size)):=by
  by_cases h0:0<p
  ·obtain⟨gP,V,rfl,hb,hc⟩:=(ON.rn O4.out).at 0 h0
   refine⟨gP,V,λ_=>⟨rfl,λk d=>k6.cell (k5.cell (hc k d))⟩,.inr ⟨?_,hb⟩⟩;have h1:=ON.own_ge O4.out gP rfl;have h2:F.drew.heap.size=F.heap.size:=rfl;have h3:=K3.out.2;omega
  ·exact⟨s.heap.size+1,0,λh=>absurd h h0,.inl rfl⟩
 obtain⟨f,am⟩:∃ f:Nat->List Nod × List UInt8,f=λm=>((aC p 0 i).reverse.take m).foldl (bP i) (t,[]):=⟨_,rfl⟩
 have aX:Hid (f 0=(t,[])):=by unfold Hid;rw[am];rfl
 have aW:Hid (∀ m,m<p->f (m+1)=bP i (f m) ((aC p 0 i).getD (p - 1 - m) 0)):=λm hm=>by
  rw[am];show((aC p 0 i).reverse.take (m+1)).foldl (bP i) (t,[])=_
  rw[rj _ _ _ m 0 (by rw[List.length_reverse,ax];exact hm)];congr 1
  rw[Iw,Iw,List.getElem?_reverse (by omega),ax]
 have bB:Hid (f p=ed t i):=by
  unfold Hid ed;rw[am,q1];show((aC p 0 i).reverse.take p).foldl (bP i) (t,[])=_
  rw[Jm (by rw[List.length_reverse,ax];exact IB _)]
 have aB:Hid (∀ m,bq (f m).1 p/\(f m).1.length=N/\((f m).2.length=0\/(f m).2.length=32)):=λm=>by
  rw[am];have d:=qZ (t:=t) (K:=p) (i:=i) ((aC p 0 i).reverse.take m) (t,[]) (λx hx=>by
   have bK:=List.mem_reverse.1 (List.mem_of_mem_take hx);obtain⟨k,d,rfl⟩:=Jr bK;have:=(af k (by omega)).1;rw[Iw,Iy d] at this;exact hN▸this) hT rfl (.inl rfl)
  exact⟨d.1,d.2.1.trans hN,d.2.2.1⟩
 have aY:Hid (∀ m,m<p->(aC p 0 i).getD (p - 1 - m) 0<N/\(aC p 0 i).getD (p - 1 - m) 0 % 2=1):=λm hm=>af _ (by omega)
 have bS:Hid (∀ W,Kp w W->Tab W):=λW I=>M.kp I
 have aH:Hid (eA t (i:Int)=(ed t i).1.set (2*i) (dA (ats (ed t i).1 (2*i)) (ed t i).2)/\2*i<N):=⟨by unfold eA;rw[if_pos h,IM],by omega⟩;have aR:p<=100000:=by omega
 have aU:Hid (Kp s T):=k5.trans k6;have aE:=Lib.hid (Gw (aC p 0 i) p a4 b4 (s.heap.size+1) gP V T aR (by have:=bj.cell;rwa [s5] at this) bo);have HZ:Hid (Kp w T/\T.heap.size=s.heap.size+2/\q.heap.size+2<=s.heap.size/\w.heap.size<=g/\g<q.heap.size):=⟨K1.out.trans (K3.out.1.trans (K4.out.trans aU.out)),by omega,by have:=K4.out.size;have:=K3.out.2;omega,HG.out⟩;have a3:Hid (eE w q.heap.size (q.heap.size+1) s.heap.size g N E u (t,[]) (λ_=>False) T (.slice none 0 0) P U H):=by
  have aI:Kp F T:=K4.out.trans aU.out;have bJ:Kp q T:=K3.out.1.trans aI;refine⟨(aI.block _ L.out.1.lt).trans L.out.1,(aI.block _ L.out.2.lt).trans L.out.2,(k6.block _ ai.lt).trans ai,cQ _,bk.nil _ _ _,HX.out.kp bJ,λj hj=>?_,HZ.out.1,⟨HG.out.1,HG.out.2,by omega,by have:=HZ.out;omega⟩⟩;have aL:=HX.out.ins j hj;have hz:=HZ.out;exact⟨λx n c e h0 d=>by have:=aL.pub.inside x n c e h0;rcases d with d|d;exact d;omega,λx n c e h0 d=>by have:=aL.un.inside x n c e h0;rcases d with d|d;exact d;omega,λx n c e h0 d=>by have:=aL.hash.inside x n c e h0;rcases d with d|d;exact d;omega⟩
 have bD:=Lib.hid bn;clear am af bo bn ax ai bj k5 k6 s6 K3 aV K4 O4 aU L HX HG q1 q2 q3 hN hT hr ht M hi h z1 z2 z3 hK bM K1 bx;rw[s5];go_wp2_with fail;have hE:∀ args w,(callFunc 175 args).run prog w=.ok (.enter 175 args) w:=enters_of func175 (by kernel_rfl) rfl;obtain⟨R,hR⟩:∃ R:Nat->Prop,(λk=>k=s.heap.size+1\/k=gP)=R:=⟨_,rfl⟩;have bC:Hid (∀ k,R k->k<T.heap.size/\k≠g/\k≠s.heap.size):=λk d=>by
  have:=HZ.out;have:=bD.out;rw[<-hR] at d;rcases d with rfl|rfl <;> omega
 rw[hR] at aE;clear hR bD;have bG:Hid (∀ m Y A,(∃ rt P U H,eE w q.heap.size (q.heap.size+1) s.heap.size g N E u (f m) Y A rt P U H)↔(∃ rt P U H,eE w q.heap.size (q.heap.size+1) s.heap.size g N E u (f m) Y A rt P U H)):=λ_ _ _=>Iff.rfl
 refine rQ (gf:=175) (lb:=#[.pointer (some ⟨s.heap.size+1,0,none⟩)]) rfl hE (Kp.refl T) (λk d=>(bC.out k d).1) aE.out ?sz
   (λm Y A=>∃ rt P U H,eE w q.heap.size (q.heap.size+1) s.heap.size g N E u (f m) Y A rt P U H) (λc m Y A=>False) ?mI ?mIx ?TT ?h0
   (λv a' _=>∃ x y:Int,v=#[.int .i64 x,.int .i64 y]/\a'={ tmps:=#[.slice a N c,.int .i64 (i:Int),undef,undef,.slice none 0 0,.int .i64 0,.pointer (some ⟨q.heap.size,0,none⟩),.pointer (some ⟨q.heap.size+1,0,none⟩),.slice a4 p b4,.int .i64 0,.pointer (some ⟨s.heap.size,0,none⟩),undef,.int .i64 y,.slice a N c,.slice (some ⟨g,0,none⟩) N E,.slice a N c,.int .i64 (i:Int),.bool true,.bool false,undef,.int .i64 (i:Int),.int .i64 u,.tuple #[.slice a4 p b4,.int .i64 0],.int .i64 u,.slice a N c,.int .i64 NN,.tuple #[.slice a4 p b4,.int .i64 0],.slice a4 p b4,.int .i64 0,.slice a4 p b4,.func (.func 175) #[] #[.pointer (some ⟨s.heap.size+1,0,none⟩)],.int .i64 x,.int .i64 y,undef,undef,undef,undef,undef,undef,undef,undef,undef,undef,undef,undef,undef,undef,undef,undef,undef,undef,undef,undef,undef,undef,undef],defers:=[] })
   (λ_ _ _ _ _ _ h _ _=>h) ?assign ?body ?done ?stop
 case h0=>rw[aX.out];exact⟨_,_,_,_,a3.out⟩
 case sz=>intro m v Y A h;rw[h];rfl
 case mI=>intro m;exact eE.minds (by have:=HZ.out;omega)
 case mIx=>intro c m Y Y' A A' h;exact h.elim
 case TT=>intro m v Yi Y A A' l o h _ _ _ _ _;exact h
 case assign=>
  intro l m Y Yi v A Kk z aP hK;subst aP;gi_wp2
  exact hK _ _ (Kp.refl _) ⟨_,_,rfl,rfl⟩
 case body=>
  rintro l m Y v a' A hm ⟨rt,P9,U9,H9,z⟩ aJ bm aP ⟨x,y,a9,rfl⟩;subst aP;simp only[Array.mk.injEq,Mq,Value.int.injEq,true_and,and_true] at a9;obtain⟨rfl,rfl⟩:=a9;obtain⟨J9,aS⟩:∃ J9:World->Prop,∀ B,J9 B↔∃ rt P U H,eE w q.heap.size (q.heap.size+1) s.heap.size g N E u (f (m+1)) Y B rt P U H:=⟨_,λ_=>Iff.rfl⟩;have bF:=Lib.hid aS;obtain⟨Z9,aO⟩:∃ Z9:Nat->Prop,(λk=>Y k\/R k)=Z9:=⟨_,rfl⟩;rw[aO];have bu:Hid (∀ k,Z9 k->k≠g/\k≠s.heap.size/\k<A.heap.size):=λk d=>by
   have hz:=HZ.out;rw[<-aO] at d;rcases d with d|d
   ·have:=aJ k d;omega
   ·have h1:=bC.out k d
    have h2:=bm.size;exact⟨h1.2.1,h1.2.2,by omega⟩
  refine wpIn_mono (Q:=λe _ B=>Gx J9 A Z9 e B) ?_ (λe a B h=>⟨h.2.2,.inl ⟨h.1,(aS B).1 h.2.1⟩⟩);have bR:Hid (∀ k,Y k->k<A.heap.size):=λk d=>(aJ k d).2
  obtain⟨x1,x2⟩:=aY.out m hm;obtain⟨a8,a7,a6⟩:=aB.out m;have bb:=aW.out m hm;generalize (aC p 0 i).getD (p - 1 - m) 0=X at *;generalize (p - 1 - m:Nat)=MM at *;have aZ:=Lib.hid bb;have hX:X<(f m).1.length:=by omega
  have bv:=Lib.hid (IC hX (IC x2 (IC a8 (IC a7 a6))));have Z:=z.row.at X hX;have ck:=Z.kind;have ch:=Z.hashC;have cf:=((z.row.there X hX 4 (by omega)) 0 (by omega)).2;rw[Lp] at cf;have c6:=z.out.cell;have c7:=z.leaf.cell;have bt:=z.box.cell;have i2:(X:Int)<(N:Int):=by omega
  have HI:=Lib.hid z;obtain⟨ar,nr,cr,rfl⟩:=br z.told;have aM:∃ ah nh ao,H9 X=.slice ah nh ao:=br (z.row.ins X hX).hash;obtain⟨ah,nh,ao,an⟩:=aM;rw[an] at ch;clear z Z aJ bm aO aS hm x1 x2 a8 a7 a6 bb hX an aE aB aY aW bG aX a3;by_cases d:(ats (f m).1 X).kind=2
  ·rw[d] at ck
   have a0:=Lib.hid d;have bN:prog.follows .mixedOrders=true:=by kernel_rfl
   have b3:prog.follows .lateStores=true:=by kernel_rfl
   clear d;gi_wp2
   obtain⟨A1,ay⟩:∃ A1,A.setCell ⟨g,X*5+4,none⟩ (.slice ar nr cr)=A1:=⟨_,rfl⟩;rw[ay];have hh:=bv.out;have ag:=HI.out.rehash hh.1;rw[ay] at ag;have bH:Hid (aN Z9 A A1/\A1.heap.size=A.heap.size):=by
    rw[<-ay];exact⟨⟨by simp,λk d hz=>Below.heap_setCell A _ _ k (λe=>(bu.out k hz).1 (by rw[e]))⟩,by simp⟩
   have aF:bP i (f m) X=((f m).1.set X (dA (ats (f m).1 X) (f m).2),gY ((f m).1.set X (dA (ats (f m).1 X) (f m).2)) (X:Int) (if X<2*i then 1 else 0)):=by
    unfold bP;rw[if_pos a0.out]
   have bA:=hh.2.2.1.hashed X (b:=(f m).2) (by omega) hh.1;have bI:(ats ((f m).1.set X (dA (ats (f m).1 X) (f m).2)) X).kind=2:=by rw[dZ _ _ _ _ hh.1,if_pos rfl];exact a0.out
   have bc:NL A1 (.slice (some ⟨g,0,none⟩) N E) ((f m).1.set X (dA (ats (f m).1 X) (f m).2)):=ag.row.no.nl;rw[aF] at aZ;have bw:Hid (X<((f m).1.set X (dA (ats (f m).1 X) (f m).2)).length):=by unfold Hid;rw[IW];exact hh.1
   generalize (f m).1.set X (dA (ats (f m).1 X) (f m).2)=T1 at *;have ae:(if (X:Int)<u then (1:Int) else if u<(X:Int) then 0 else 1)=(if X<2*i then 1 else 0):=by
    have h1:=bE.out;have h2:=hh.2.1;by_cases bf:X<2*i
    ·rw[if_pos (by omega),if_pos bf]
    ·rw[if_neg (by omega),if_neg bf,if_pos (by omega)]
   have bT:Hid (∀ W,Calls prog 146 #[.int .i64 (X:Int),.int .i64 u] W λe w'=>e=.returned (.int .i64 (if X<2*i then 1 else 0))/\W=w'):=λW=>by
    have:=Fr (X:Int) u W;rwa [ae] at this
   have ba:((if X<2*i then 1 else 0:Int)=0)\/((if X<2*i then 1 else 0:Int)=1):=by split;exact .inr rfl;exact .inl rfl
   have b1:Hid (∀ W,Kp A1 W->Calls prog 145 #[.slice (some ⟨g,0,none⟩) N E,.int .i64 (X:Int),.int .i64 (if X<2*i then 1 else 0)] W λe w'=>(∃ r,e=.returned r/\Ow 5 w' W.heap.size r (gY T1 (X:Int) (if X<2*i then 1 else 0)))/\Kp W w'):=λW I=>
    Gu _ T1 p X _ W bA (bc.kp I) (bS.out W (ag.kp.trans I)) bw.out bI ba
   generalize (if X<2*i then 1 else 0:Int)=SD at *;generalize gY T1 (X:Int) SD=V9 at *;have aq:=Lib.hid ag;have C:Hid (∀ W,Kp A1 W->W.cell? ⟨q.heap.size,0,none⟩=some (.slice (some ⟨g,0,none⟩) N E)/\W.cell? ⟨q.heap.size+1,0,none⟩=some (.int .i64 u)):=λW I=>⟨I.cell aq.out.out.cell,I.cell aq.out.leaf.cell⟩
   have J:Hid (Kp A1 A1.drew):=Kp.drew (Kp.refl A1);clear ay ag aF bA bI bc ae ba ck ch cf c6 c7 bt a0 hh bv HI bw;refine uq (S:=λW=>W.cell? ⟨q.heap.size,0,none⟩=some (.slice (some ⟨g,0,none⟩) N E)/\W.cell? ⟨q.heap.size+1,0,none⟩=some (.int .i64 u)) bN ?_;refine bi.take 0 (.slice (some ⟨g,0,none⟩) N E) rfl (by kernel_rfl) (by kernel_rfl) (by kernel_rfl) (by kernel_rfl) (λ_ _ _ h=>h) (C.out _ J.out) ⟨λc e=>(by cases e),λ_=>rfl,.inl ⟨rfl,λW' al=>?_⟩⟩ ?_
   ·have:=al.1
    go_simp
   refine bi.take 1 (.int .i64 (X:Int)) rfl (by kernel_rfl) (by kernel_rfl) (by kernel_rfl) (by kernel_rfl) (λ_ _ _ h=>h) (C.out _ J.out) ⟨λc e=>(by cases e),λ_=>rfl,.inl ⟨rfl,λW' al=>?_⟩⟩ ?_
   ·go_simp
   refine bi.take 2 (.int .i64 (X:Int)) rfl (by kernel_rfl) (by kernel_rfl) (by kernel_rfl) (by kernel_rfl) (λ_ _ _ h=>h) (C.out _ J.out) ⟨λc e=>(by cases e),λ_=>rfl,.inl ⟨rfl,λW' al=>?_⟩⟩ ?_
   ·go_simp
   refine bi.take 3 (.int .i64 u) rfl (by kernel_rfl) (by kernel_rfl) (by kernel_rfl) (by kernel_rfl) (λ_ _ _ h=>h) (C.out _ J.out) ⟨λc e=>(by cases e),λ_=>rfl,.inl ⟨rfl,λW' al=>?_⟩⟩ ?_
   ·have:=al.2
    go_simp
   go_simp;refine bi.one 4 rfl (by kernel_rfl) (λK2 hK=>?_);go_simp;gi_wp2_with (refine⟨trivial,?_⟩;gi_at_call 146;refine(CallsIn.inRound l (callsIn_wide.2 (bT.out _))).mono ?_;rintro _ _ ⟨rfl,rfl⟩)
   refine hK _ _ (C.out _ J.out) ?_;clear hK K2;refine bi.one 5 rfl (by kernel_rfl) (λK2 hK=>?_);go_simp;gi_wp2_with (refine⟨trivial,?_⟩;gi_at_call 145;refine(CallsIn.inRound l (callsIn_wide.2 (b1.out _ J.out))).mono ?_;rintro _ A2 ⟨⟨r2,rfl,o2⟩,k2⟩)
   have G:Kp A1 A2:=J.out.trans k2;have a1:=Lib.hid (aq.out.tell G o2 (IB _) (λk d=>by have:=bR.out k d;have:=bH.out.2;omega));obtain⟨a2,n2,b2,rfl⟩:=br o2.rd;have b8:=(aq.out.kpI G).box.cell;have b7:=(aq.out.kpI G).box.frozen;have bZ:Hid (aN Z9 A (A2.setCell ⟨s.heap.size,0,none⟩ (.slice a2 n2 b2))):=bH.out.1.trans ⟨by have:=G.size;simpa using this,λk d hz=>(Below.heap_setCell A2 _ _ k (λe=>(bu.out k hz).2.1 (by rw[e]))).trans (G.block k d)⟩;have bX:Hid (J9 (A2.setCell ⟨s.heap.size,0,none⟩ (.slice a2 n2 b2))):=(bF.out _).2 ⟨_,_,_,_,by rw[aZ.out];exact a1.out⟩;have bU:Hid ((A2.setCell ⟨s.heap.size,0,none⟩ (.slice a2 n2 b2)).cell? ⟨q.heap.size,0,none⟩=some (.slice (some ⟨g,0,none⟩) N E)/\(A2.setCell ⟨s.heap.size,0,none⟩ (.slice a2 n2 b2)).cell? ⟨q.heap.size+1,0,none⟩=some (.int .i64 u)):=⟨a1.out.out.cell,a1.out.leaf.cell⟩;refine hK _ _ (C.out _ G) ?_;clear hK K2 G k2 o2;refine bi.one 6 rfl (by kernel_rfl) (λK2 hK=>?_);go_simp;refine hK _ _ bU.out ?_;clear hK K2;refine bi.done (by kernel_rfl) ?_;exact⟨rfl,bX.out,bZ.out⟩
  ·have b5:((ats (f m).1 X).kind==2)=false:=ID.2 d
   have HD:Hid (J9 A):=(bF.out A).2 ⟨_,_,_,_,by rw[aZ.out];unfold bP;rw[if_neg d];exact HI.out⟩;generalize (ats (f m).1 X).kind=KD at *;clear d;gi_wp2
   exact⟨rfl,HD.out,aN.refl _ _⟩
 case done=>
  rintro D' Y W hD ak bl ⟨rt,P9,U9,H9,z⟩ hd;rename_i Qp Kk bQ
  have aG:=(aB.out p).2.1;rw[bB.out] at z aG;obtain⟨aT,bs⟩:=aH.out;obtain⟨O,bO⟩:∃ O,2*i=O:=⟨_,rfl⟩;have bg:=bE.out;rw[bO] at bg aT bs;subst bg;have hX:O<(ed t i).1.length:=by omega
  have Z:=z.row.at O hX;have ch:=Z.hashC;have cf:=((z.row.there O hX 4 (by omega)) 0 (by omega)).2;rw[Lp] at cf;have c6:=z.out.cell;have c7:=z.leaf.cell;have bt:=z.box.cell;have i2:(O:Int)<(N:Int):=by omega
  obtain⟨ar,nr,cr,rfl⟩:=br z.told;have aM:∃ ah nh ao,H9 O=.slice ah nh ao:=br (z.row.ins O hX).hash;obtain⟨ah,nh,ao,an⟩:=aM;rw[an] at ch;have D:=z.rehash hX;rw[<-aT] at D;have hz:=HZ.out;have be:D'≠g:=by omega
  have bh:(W.setCell ⟨g,O*5+4,none⟩ (.slice ar nr cr)).heap[D']?=some (.deferred (some [])):=(Below.heap_setCell W _ _ D' be).trans hd;have aK:aj (λk=>k=D') (W.setCell ⟨g,O*5+4,none⟩ (.slice ar nr cr)) ((W.setCell ⟨g,O*5+4,none⟩ (.slice ar nr cr)).putObj D' (.deferred none)):=(aj.refl _ _).putObj _ _ (.inr rfl);have b6:(W.setCell ⟨g,O*5+4,none⟩ (.slice ar nr cr)).cell? ⟨q.heap.size,0,none⟩=some (.slice (some ⟨g,0,none⟩) N E):=D.out.cell;have bV:Hid (NL ((W.setCell ⟨g,O*5+4,none⟩ (.slice ar nr cr)).putObj D' (.deferred none)) (.slice (some ⟨g,0,none⟩) N E) (eA t (i:Int))):=
   (D.row.stepF aK (λe=>be e.symm) (λj hj=>⟨(D.free j hj).1.mono λk e=>.inl (e▸ak),(D.free j hj).2.1.mono λk e=>.inl (e▸ak),(D.free j hj).2.2.mono λk e=>.inl (e▸ak)⟩)).no.nl
  have bW:Hid (Kp w ((W.setCell ⟨g,O*5+4,none⟩ (.slice ar nr cr)).putObj D' (.deferred none))):=Below.trans D.kp (aK.below D.kp.size (λk d=>by have:=hz.1.size;omega));have b0:=Lib.hid bh;clear z D Z an aG aT bs hX aK bh bl ak aE aB aY aW bG aX a3 bB aH;simp only[Exit.inBlock,Exit.then];refine bQ _ _ ?_;go_wp2;refine⟨by simp,.inl ⟨_,_,rfl,run_takeDeferred b0.out,?_⟩⟩;exact⟨_,results_tmp2 rfl _ _ _,⟨_,rfl,bV.out⟩,bW.out⟩
 case stop=>intro D' c m Y W hD ak bl hm h;exact h.elim
theorem GA (b:Value)(t:List Nod)(K:Nat)(i:Int)(w:World)(f:bq t K)(c:az t K)(d:NL w b t)(j:-9223372036854775808<=i/\i<=9223372036854775807)(a:Tab w):
  Calls prog 106 #[b,.int .i64 i] w λe w'=>(∃ r,e=.returned (.tuple #[r,.int .i64 (oC t i)])/\NL w' r (eA t i))/\Kp w w':=by
 by_cases h:bd t i
 ·rw[show oC t i=0 from if_pos h]
  obtain⟨k,rfl⟩:=IR h.1;have g:=h.2.1;rw[c.lv] at g;exact Gz b t K k w f c d a (by omega) h
 ·rw[show oC t i=11 from if_neg h,show eA t i=t from if_neg h]
  exact Gy b t K i w f c d h
