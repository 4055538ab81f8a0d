import Derived.Test.YthmhklmkgkfcpaaGreatDoorV27
set_option linter.all false
set_option maxHeartbeats 8000000
set_option maxRecDepth 100000
namespace Go.Proofs.YthmhklmkgkfcpaaGreatDoor
open Go.Proofs.Tryz Go.RowKit
variable {A B c w0:World}{Y:Nat->Prop}{a d i j:Nat}{s:List UInt8}{v:Value}
section
open Go.Shelf
attribute [local go_sem] Oper.semAt_some
section
variable {α : Type} {S : Sh α} {Z : Nat -> Prop} {P : Program} {w : World} {t e : TypeId} {F : Fence} {nF : Nat}
theorem yn (K:SK P t e S.k){A:Array Oper}{rest:List Oper}{o:Oper}{a:Act}{Q:Exit->Act->World->Prop}(M:o.guard=none)(s x:Operand)
  (ho:o.op=.call { callee:=.builtin .append,args:=#[s,x],argTypes:=#[t,t] })
  (B:Nat) (v:Value) (d:List α) (hs:a.eval s=v) (D:GZ S e Z w B v d) (aa:Value) (y:α) (hx:a.eval x=aa) (hu:SE S (λg=>some g=v.ownBlock\/Z g) w aa [y]) (E:d.length+1<=1000000) (q:B<=w.heap.size)
  (h:∀ r w',GZ S e Z w' B r (d++[y])->w.grownBy w' v.ownBlock->(r.ownBlock=v.ownBlock\/r.ownBlock=some w.heap.size)->wpListIn F nF P A Q rest (a.put o.dst r) w'):wpListIn F nF P A Q (o :: rest) a w:=by
 obtain⟨i,z,hi,hz,n,O,L⟩:=K.hi;obtain⟨us,Y,h2,h3⟩:=D;obtain⟨ad,c,rfl,hc,hm,W,p⟩:=hu;have R:(d.length+1)*i.bytes<=140737488355328:=by
  have:=Kc E O;omega
 obtain⟨b,H,rfl,_,hn⟩:=p (by simp);obtain⟨l,n1,V,n3,n4⟩:=SE.flat hn;refine wpListIn_append_own_at w M s x t ho B e i z S.k i.bytes K.ht hi hz n rfl L S.pos v d.length us hs Y ⟨b,H,none⟩ 1 c l hx n1 (λj y u=>?_) V (by unfold maxLen;omega) R q
  (λr w' k1 J _ I=>h r w' ⟨us++l,by rw[IE];exact k1,λy C=>?_,λj y u=>?_⟩ J I)
 ·rw[Addr.add_mid]
  exact n3 j y u
 ·rcases Jy.1 C with C|C
  ·exact h2 y C
  ·exact V y C
 ·have m:=Y.1
  by_cases G:j<d.length
  ·rw[Jh G] at u
   obtain⟨vs,U,T⟩:=h3 j y u;refine⟨vs,λf N=>?_,Sh.moved T J I⟩;have X:(j+1)*S.k<=d.length*S.k:=JL _ G;rw[Le,Lf] at X;rw[Jh (by rw[m];omega)];exact U f N
  ·rw[Jd (by omega)] at u
   obtain⟨vs,U,T⟩:=n4 (j - d.length) y u;refine⟨vs,λf N=>?_,Sh.moved T J I⟩;have X:d.length*S.k<=j*S.k:=JL _ (by omega);rw[Jd (by rw[m];omega),m,<-U f N,Nat.sub_mul];congr 1
   omega
end
structure fZ (w0:World)(B0 gb gl last:Nat)(s:List UInt8)(i:Nat)(Y:Nat->Prop)(A:World)(o:Value):Prop where
 mk ::
 box:Bx A gb 115 #[o]
 lst:Bx A gl 3 #[.int .i64 (last:Int)]
 row:GZ fH 24 (λg=>Y g\/g=gb) A B0 o (dB s i)
 apt:∀ g,o.ownBlock=some g->¬Y g
 kp:Kp w0 A
 sz:B0<=A.heap.size
theorem GZ.under {α:Type}{S:Sh α}{e:TypeId}{C b:Nat}{t:List α}{k:Nat->Prop}(h:GZ S e (λg=>Y g\/g=b) A C v t)(d:aj Y A c)(a:kg Y k A c)(l:∀ g,v.ownBlock=some g->¬Y g):GZ S e (λg=>k g\/g=b) c C v t:=by
 have n:GZ S e (λg=>(Y g\/g=b)\/A.heap.size<=g) A C v t:=h.solidly λg a=>a.elim (λh=>.inr (.inl h)) λh=>.inr (.inr λd=>by have:=d.lt;omega)
 have m:GZ S e (λg=>(Y g\/g=b)\/A.heap.size<=g) c C v t:=n.step d (λg a=>.inl (.inl (.inl a))) l;refine m.solidly λg f=>?_
 rcases f with j|j
 ·rcases a g j with i|i
  ·exact .inr (.inl (.inl (.inl i)))
  ·exact .inr (.inl (.inr i.1))
 ·exact .inr (.inl (.inl (.inr j)))
theorem fZ.minds {f e:Nat}(D:w0.heap.size<=d)(C:f<d)(B:e<d)(j:Prop):dw d (λY A=>j/\∃ o,fZ w0 d f e a s i Y A o):=by
 rintro Y E A F ⟨x,o,u,t,r,q,p,z⟩ l b m;have w:¬Y f:=λh=>by have:=(l _ h).1;omega
 have v:¬Y e:=λh=>by have:=(l _ h).1;omega
 refine⟨x,o,(b.block f (Iz.1 u).1 w).trans u,(b.block e (Iz.1 t).1 v).trans t,r.under b m q,λg c h=>?_,Below.trans p (b.below p.size (λk y=>by have:=(l k y).1;omega)),IU z b.size⟩;rcases m g h with n|n
 ·exact q g c n
 ·have:=(r.lt g c).2;omega
theorem fZ.next {m:Nat}{o l:Value}{q:Obj}{R:Nat->Prop}(U:w0.heap.size<=a)(W:a<m)(V:j<m)(y:a≠j)(h:fZ w0 m a j d s i Y A o)(D:∀ k,Y k->m<=k/\k<A.heap.size)(E:∀ k,R k->k<m/\k≠a)
  (L:GZ fH 24 (λg=>(Y g/\¬leads v g)\/g=a) c m l (dB s (i+1))) (n:(A.alloc q).grownBy c o.ownBlock) (z:l.ownBlock=o.ownBlock\/l.ownBlock=some (A.alloc q).heap.size):
  c.frozen? ⟨a,0,none⟩=false/\c.cell? ⟨a,0,none⟩=some o/\fZ w0 m a j d s (i+1) (λk=>Y k/\¬leads v k) (c.setCell ⟨a,0,none⟩ l) l/\aN (λk=>Y k\/R k) A (c.setCell ⟨a,0,none⟩ l):=by
 obtain⟨T,S,Q,G,P,O⟩:=h;have f:∀ g,o.ownBlock=some g->m<=g/\g<A.heap.size:=Q.lt;have I:some a≠o.ownBlock:=λe=>by have:=(f a e.symm).1;omega
 have H:some j≠o.ownBlock:=λe=>by have:=(f j e.symm).1;omega
 have p:Bx c a 115 #[o]:=((n.block a (by simp;omega) I).trans (Below.heap_alloc A _ a (by omega))).trans T;have u:Bx c j 3 #[.int .i64 (d:Int)]:=((n.block j (by simp;omega) H).trans (Below.heap_alloc A _ j (by omega))).trans S;have b:aj (λk=>k=a) c (c.setCell ⟨a,0,none⟩ l):=(aj.refl _ _).setCell _ _ (.inr rfl);have t:A.heap.size<=c.heap.size:=by have:=n.size;simp at this;omega
 have r:∀ g,l.ownBlock=some g->m<=g/\¬Y g:=λg e=>by
  rcases z with B|B
  ·rw[B] at e
   exact⟨(f g e).1,G g e⟩
  ·rw[B] at e
   simp only[IQ,Jo] at e;refine⟨by omega,λJ=>?_⟩;have:=(D g J).2;omega
 have C:Kp w0 c:=Kp.grown (v:=o) (P.alloc _) n (λk x=>by have:=(f k x).1;omega);refine⟨p.frozen 0,?_,⟨p.set 0 l,(b.block j (Iz.1 u).1 (λe=>y e.symm)).trans u,L.step b (λg n=>.inl (.inr n)) (λg e M=>by have:=(r g e).1;omega),λg e N=>(r g e).2 N.1,Below.trans C (b.below C.size (λk x=>by omega)),IU O (IU t b.size)⟩,⟨IU t b.size,λk x K=>?_⟩⟩
 ·have:=p.cell 0
  simpa using this
 ·have F:k≠a/\some k≠o.ownBlock:=by
   rcases K with w|w
   ·exact⟨λe=>by have:=(D k w).1;omega,λe=>G k e.symm w⟩
   ·exact⟨(E k w).2,λe=>by have:=(f k e.symm).1;have:=(E k w).1;omega⟩
  exact(b.block k (by omega) F.1).trans ((n.block k (by simp;omega) F.2).trans (Below.heap_alloc A _ k x))
theorem yo (v:Value)(s:List UInt8)(n:Nat)(w:World)(hv:Rd w v s)(hs:s.length=32)(hn:n<=1000):
  Calls prog 56 #[v,.int .i64 (n:Int)] w λe w'=>(∃ o r,e=.returned (.tuple #[o,r])/\aH fH w' o (dB s n)/\Rd w' r (fF s n)/\bk (λg=>g<w.heap.size) o)/\Kp w w':=by
 have aG:=Lib.hid (λW (hW:Kp w W)=>GP v s W (hv.kp hW));have aF:=Lib.hid (λN b W (hW:Kp w W) (hb:W.cell? ⟨b,0,none⟩=some v)=>GQ v s N b W (hv.kp hW) hs hb);have HV:=Lib.hid hv;obtain⟨L,hL⟩:∃ L,(if n=0 then 1 else n)=L:=⟨_,rfl⟩;have aB:fF s n=aV s L:=by unfold fF;rw[hL]
 have aQ:n<=L/\1<=L/\L<=1000:=by rw[<-hL];split <;> omega
 have aX:max (n:Int) 1=(L:Int):=by rw[<-hL];split <;> omega
 rw[aB];obtain⟨a,X,c,rfl⟩:=aA hv;have a1:=Lib.hid aQ;clear hv hs hL aB;refine(callsIn_wide (n:=4)).1 ?_;refine callsIn_of_wp_marks func56 rfl trivial ?_ rfl;refine wpIn_wide.2 ?_;simp only[ntmps56,JE,JF,Jq,Jf,Nat.reduceAdd,Nat.reduceSub,JB,JC,JM,Js,JG];go_wp2_with fail;obtain⟨w2,u⟩:∃ x,(w.alloc (.cells #[.slice none 0 0] 115)).alloc (.cells #[.int .i64 (L:Int)] 3)=x:=⟨_,rfl⟩;have ab:w2.heap.size=w.heap.size+2:=by rw[<-u];simp
 have aw:Bx w2 w.heap.size 115 #[.slice none 0 0]:=by rw[<-u];exact(Bx.new w _ _).kp ((Kp.refl _).alloc _)
 have ap:Bx w2 (w.heap.size+1) 3 #[.int .i64 (L:Int)]:=by
  have:=Bx.new (w.alloc (.cells #[.slice none 0 0] 115)) 3 #[.int .i64 (L:Int)];rw[IQ] at this;rw[<-u];exact this
 have E:Kp w w2:=by rw[<-u];exact((Kp.refl _).alloc _).alloc _
 rw[u];clear u;refine(aG.out w2 E).mono ?_;rintro _ _ ⟨rfl,rfl⟩;obtain⟨j,z⟩:∃ x,w2.alloc (.cells #[.slice a X c] 24)=x:=⟨_,rfl⟩;have y:Kp w2 j:=by rw[<-z];exact(Kp.refl _).alloc _
 have an:j.heap.size=w.heap.size+3:=by rw[<-z];simp[ab]
 have av:j.cell? ⟨w2.heap.size,0,none⟩=some (.slice a X c):=by
  have:=(Bx.new w2 24 #[.slice a X c]).cell 0;rw[<-z];simp
 rw[z];have ag:=Lib.hid (aF.out (L+1) w2.heap.size j (E.trans y) av);have aU:Hid (fZ w j.heap.size w.heap.size (w.heap.size+1) L s 0 (λ_=>False) j (.slice none 0 0)):=⟨aw.kp y,ap.kp y,by exact GZ.nil _ _ _,λg hg=>(by cases hg),E.trans y,IB _⟩;have p:Hid (w2.heap.size=w.heap.size+2/\j.heap.size=w.heap.size+3):=⟨ab,an⟩;have K3:=Lib.hid (E.trans y);have hE:∀ args w,(callFunc 133 args).run prog w=.ok (.enter 133 args) w:=enters_of func133 (by kernel_rfl) rfl;clear z av aw ap E y aG aF ab an;go_wp2_with fail;obtain⟨VL,az⟩:∃ VL:Nat->Prop,(λk=>leads (.slice a X c) k)=VL:=⟨_,rfl⟩;have H:∀ k,leads (.slice a X c) k↔VL k:=λk=>by rw[<-az]
 have G:∀ k,VL k->k<w.heap.size:=λk d=>HV.out.leads_lt k ((H k).2 d)
 simp only[H] at ag;obtain⟨R,hR⟩:∃ R:Nat->Prop,(λk=>k=w2.heap.size\/VL k)=R:=⟨_,rfl⟩;have ah:Hid (∀ k,R k->k<j.heap.size/\k≠w.heap.size):=λk d=>by
  have:=p.out;rw[<-hR] at d;rcases d with rfl|d
  ·omega
  ·have:=G k d;omega
 have aT:Hid (∀ k,VL k->R k):=λk d=>by rw[<-hR];exact .inr d
 have aE:=Lib.hid G;rw[hR] at ag;clear hR az H G;refine GO (gf:=133) (lb:=#[.pointer (some ⟨w2.heap.size,0,none⟩)]) rfl hE (Kp.refl j) (λk d=>(ah.out k d).1) ag.out rfl
   (λi Y A=>i<=L/\∃ o,fZ w j.heap.size w.heap.size (w.heap.size+1) L s i Y A o) (λe i Y A=>e=.exit 0/\∃ o,fZ w j.heap.size w.heap.size (w.heap.size+1) L s (L+1) Y A o) ?mI ?mIx ?IN ?Tl ?TT ?h0
   (λv a' _=>a'={ tmps:=#[.slice a X c,.int .i64 (n:Int),undef,undef,.slice none 0 0,.slice none 0 0,.pointer (some ⟨w.heap.size,0,none⟩),.pointer (some ⟨w.heap.size+1,0,none⟩),v,.int .i64 (n:Int),.int .i64 (L:Int),.slice a X c,.func (.func 133) #[] #[.pointer (some ⟨w2.heap.size,0,none⟩)],v,undef,undef,undef,undef,undef,undef,undef,undef,undef,undef,undef,undef,undef,undef,undef],defers:=[] })
   (λ_ _ _ _ _ _ h _ _=>h) ?assign ?body ?done ?stop
 case mI=>intro i;exact fZ.minds (by have:=p.out;omega) (by have:=p.out;omega) (by have:=p.out;omega) _
 case mIx=>intro e i;exact fZ.minds (by have:=p.out;omega) (by have:=p.out;omega) (by have:=p.out;omega) _
 case IN=>rintro Y A ⟨h,_⟩;omega
 case Tl=>intro i v Y A h k d;exact(h.2 k d).imp id (aT.out k)
 case TT=>
  rintro i v Yi Y A A' l o ⟨hr,hv⟩ aK _ _ hl hs;exact⟨hr.turn hl rfl hs,λk d=>(hv k d).imp (aK k) id⟩
 case h0=>exact⟨IO _,_,aU.out⟩
 case assign=>
  intro l i Y Yi v A Kk f aP hK;obtain⟨O,I,M,rfl⟩:=aA aP.1;gi_wp2
  exact hK _ _ (Kp.refl _) rfl
 case body=>
  rintro l i Y v a' A hi ⟨aY,o,f⟩ ai aZ ⟨ad,aa⟩ rfl;have aM:=f.box.cell 0;have aN:=f.lst.cell 0;simp only[IJ,IF] at aM aN;obtain⟨O,I,M,rfl⟩:=aA ad;obtain⟨ao,no,co,rfl⟩:=SE.sl f.row.gl;have hz:=p.out;have am:=f.sz;have P:(dB s i).length+1<=1000000:=by rw[jr];omega
  have U:Hid (SE fH (λg=>some g=(Value.slice ao no co).ownBlock\/((Y g/\¬leads (.slice O I M) g)\/g=w.heap.size)) (A.alloc (.cells #[.slice O I M] 24)) (.slice (some ⟨A.heap.size,0,none⟩) 1 1) [aV s i]):=by
   refine SE.litZ (S:=fH) 24 ⟨_,rfl,ad,λx m c' e h0 d=>?_⟩ rfl;have ae:leads (.slice O I M) x.block:=⟨x,m,c',e,h0,rfl⟩;rcases d with d|d|d
   ·have h1:=(f.row.lt _ d.symm).1
    rcases aa _ ae with h2|h2
    ·exact f.apt _ d.symm h2
    ·have:=aE.out _ h2;omega
   ·exact d.2 ae
   ·rcases aa _ ae with h2|h2
    ·have:=(ai _ h2).1;omega
    ·have:=aE.out _ h2;omega
  have T:Hid (GZ fH 24 (λg=>(Y g/\¬leads (.slice O I M) g)\/g=w.heap.size) (A.alloc (.cells #[.slice O I M] 24)) j.heap.size (.slice ao no co) (dB s i)):=
   (f.row.solidly λg hg=>.inr (.inl (hg.imp And.left id))).kp ((Kp.refl A).alloc _)
  have F:j.heap.size<=(A.alloc (.cells #[.slice O I M] 24)).heap.size:=IU am (by simp);have aJ:=Lib.hid f;have aD:=Lib.hid ai;have ak:=Df s i;clear f ad aa am hz;by_cases af:i=L
  ·subst af
   gi_wp2_with (gi_at_builtin;refine yn (S:=fH) (Z:=λg=>(Y g/\¬leads (.slice O I M) g)\/g=w.heap.size) (o:=⟨some 17,_,_,_,_,_⟩) byK rfl _ _ rfl j.heap.size _ (dB s i) rfl T.out _ (aV s i) rfl U.out P F ?_;intro v' w5 V g5 h5;rw[<-ak] at V;obtain⟨a5,c5,e5,_,_⟩:=SE.shape V.gl;rw[jr] at e5;subst e5;obtain⟨f5,aS,t,aC⟩:=fZ.next (R:=R) (by have:=p.out;omega) (by have:=p.out;omega) (by have:=p.out;omega) (by omega) aJ.out aD.out ah.out V g5 h5;have ca:=t.box.cell 0;have Q:=t.lst.cell 0;simp only[IJ,IF] at ca Q)
   exact⟨aC,.inr ⟨_,rfl,rfl,_,t⟩⟩
  ·gi_wp2_with (gi_at_builtin;refine yn (S:=fH) (Z:=λg=>(Y g/\¬leads (.slice O I M) g)\/g=w.heap.size) (o:=⟨some 17,_,_,_,_,_⟩) byK rfl _ _ rfl j.heap.size _ (dB s i) rfl T.out _ (aV s i) rfl U.out P F ?_;intro v' w5 V g5 h5;rw[<-ak] at V;obtain⟨a5,c5,e5,_,_⟩:=SE.shape V.gl;rw[jr] at e5;subst e5;obtain⟨f5,aS,t,aC⟩:=fZ.next (R:=R) (by have:=p.out;omega) (by have:=p.out;omega) (by have:=p.out;omega) (by omega) aJ.out aD.out ah.out V g5 h5;have ca:=t.box.cell 0;have Q:=t.lst.cell 0;simp only[IJ,IF] at ca Q)
   exact .inl ⟨by omega,_,t⟩
 case done=>rintro D Y W hD ay ax ⟨h,_⟩ hd;omega
 case stop=>
  rintro D e i Y W hD ay ax hi ⟨rfl,o,f⟩ hd;rename_i Qp Kk a0
  have K:=f.row.gl;obtain⟨gb,ob,Q,q,e1,_,cq,rq⟩:=aH.bs (i:=L) K (by rw[jr];omega);rw[jr] at e1;subst e1;obtain⟨aq,nq,aR,rfl⟩:=aA rq;have c6:=f.box.cell 0;have c7:=f.lst.cell 0;simp only[IJ,IF] at c6 c7;have e2:jR (dB s (L+1)) L=aV s L:=ru s (by omega);rw[e2] at rq;have B:=SE.pre K n (by omega);rw[Dg s (by omega)] at B;have HG:=Lib.hid B;have aW:Hid (bk (λg=>g<w.heap.size) (.slice (some ⟨gb,ob,none⟩) n Q)):=dU (C:=j.heap.size) (λg hg=>(f.row.lt g (by cases hg;rfl)).1) λg hg=>by have:=p.out;omega
  have HR:=Lib.hid rq;have aI:=Lib.hid f.kp;have HD:=Lib.hid hd;have i1:¬(n:Int)<0:=by omega
  have i2:(n:Int)<=(Q:Int):=by
   obtain⟨_,c',e3,h3,_⟩:=SE.shape K;rw[jr] at e3 h3;simp only[IG] at e3;omega
  have i3:(L:Int)<((L+1:Nat):Int):=by omega
  clear f K B rq hd e2 ax ay;go_wp2;go_region
  go_wp2;have ar:W.drew.heap[D]?=some (.deferred (some [])):=HD.out;have al:aj (λk=>k=D) W.drew (W.drew.putObj D (.deferred none)):=(aj.refl _ _).putObj _ _ (.inr rfl);have au:Cs W.drew (W.drew.putObj D (.deferred none)):=al.cs λg e hs=>by
   subst e;obtain⟨_,_,_,h⟩:=hs;rw[ar] at h;cases h
  have J:Kp W W.drew:=(Kp.refl W).drew;have aO:aH fH (W.drew.putObj D (.deferred none)) (.slice (some ⟨gb,ob,none⟩) n Q) (dB s n):=aH.cs (aH.kp (show aH fH W _ _ from HG.out) J) au;have aL:=(HR.out.kp J).cs au;refine⟨by simp,.inl ⟨_,_,rfl,run_takeDeferred ar,?_⟩⟩;exact⟨_,results_tmp2 rfl _ _ _,⟨.slice (some ⟨gb,ob,none⟩) n Q,.slice aq nq aR,rfl,aO,aL,aW.out⟩,Below.trans (aI.out.trans J) (al.below (aI.out.trans J).size (λk d=>by have:=p.out;omega))⟩
end
theorem GT (aa n s:Value)(t:List Nod)(K i:Nat)(x:Nat)(w0:World)(a:WIn w0 aa n s t K i)(k:x<t.length):
  ∃ p,Rd w0 p (ats t x).pub/\∀ W,Kp w0 W->Calls prog 103 #[.agg #[aa,.int .i64 (i:Int),n,s],.int .i64 (x:Int)] W λe w'=>e=.returned p/\Kp W w':=by
 obtain⟨G,u,rfl,p1,z⟩:=a.tree.shape;obtain⟨b,d,rfl,_,l⟩:=a.tree.at x k;obtain⟨p,q,h,c⟩:=l x k;obtain⟨w,o,v,rfl⟩:=a.nodes.sl;obtain⟨j,f,g,rfl⟩:=SE.sl a.steps;refine⟨p,c.2.pub,λW r=>?_⟩;have m:Hid (Kp W (W.alloc (.cells #[.slice (some ⟨b,d,none⟩) t.length u,.int .i64 (i:Int),.slice w o v,.slice j f g] 95))):=(Kp.refl _).alloc _;have F:=(c.kp (r.trans m.out)).pubC;obtain⟨H,A,E,rfl⟩:=aA c.2.pub;have D:¬(x:Int)<0:=by omega
 have C:¬(t.length:Int)<=(x:Int):=by omega
 have B:(x:Int)<(t.length:Int):=by omega
 generalize (ats t x).pub=y at *;generalize t.length=N at *;clear a l c;go_enter func103,ntmps103;go_wp2_with fail;go_ret;exact⟨rfl,m.out⟩
theorem Kp.stepOld (h:Kp w0 A)(s:aj Y A B)(b:∀ g,Y g->w0.heap.size<=g):Kp w0 B:=
 ⟨s.os.trans h.os,s.tape.trans h.tape,s.output.trans h.output,IU h.size s.size,λq a=>(s.block q (II a h.size) (λe=>by have:=b q e;omega)).trans (h.block q a)⟩
theorem aj.next {C:World}(h:aj Y A B)(s:aj Y B C):aj Y A C:=
 ⟨s.os.trans h.os,s.tape.trans h.tape,s.output.trans h.output,IU h.size s.size,λq a b=>(s.block q (II a h.size) b).trans (h.block q a b)⟩
theorem GU (aa n s q vs vi:Value)(t:List Nod)(K i:Nat)(a:List Int)(x:Int)(b info secret:List UInt8)(m gc N:Nat)(w0 w:World)(h0:Kp w0 w)(hu:WIn w0 aa n s t K i)(hq:RI w0 q a)(hs:RZ (λg=>g=gc) w vs b)(hi:Rd w0 vi info)
  (ho:dC w gc N secret m) (aB:w0.heap.size<=gc) (M:∀ j,j<a.length->∃ y:Nat,a.getD j 0=(y:Int)/\y<t.length/\(ats t y).pub.length=32) (aP:a.length<=2048) (hm:m<=100000) (aR:secret.length=32) (L:b.length<=1600) (az:info.length<=1400):
  Calls prog 58 #[.agg #[aa,.int .i64 (i:Int),n,s],.agg #[.int .i64 x,q],vs,vi,.func (.func 99) #[] #[.pointer (some ⟨gc,0,none⟩),.pointer (some ⟨N,0,none⟩)]] w λe w'=>
   (∃ v,e=.returned (.tuple #[v,.int .i64 0])/\GZ dl 92 (λg=>g<w.heap.size) w' w.heap.size v (cA t secret info b m a))/\dC w' gc N secret (m+a.length)/\aj (λg=>g=gc) w w':=by
 have z:=Lib.hid (λy (hy:y<t.length)=>GT aa n s t K i y w0 hu hy);have aX:=Lib.hid (λW k (h:dC W gc N secret k) (hk:k<1000000)=>GR gc N k secret W h hk (by omega));have aS:=Lib.hid (λW (hW:Kp w0 W) (vp vo:Value) (pub once:List UInt8) (hp:Rd W vp pub) (h:Rd W vo once) (aO:Rd W vs b)=>FC vp vo vi vs pub once info b W hp h (hi.kp hW) aO az L);have aV:=Lib.hid hs;have ag:=Lib.hid (fun(pub:List UInt8) k (hp:pub.length=32)=>(qX (pub:=pub) (once:=dG secret k) info b ⟨mE _ _ _,hp⟩).1);have G:=Lib.hid (λj (hj:j<a.length)=>DD (t:=t) (secret:=secret) (info:=info) (s:=b) (n:=m) (j:=j) (l:=a) hj);have H:Hid ((cA t secret info b m a).take a.length=cA t secret info b m a):=by unfold Hid;rw[<-mF t secret info b a m,Jz]
 have I:=Lib.hid M;have HQ:=Lib.hid hq;have aK:=Lib.hid aB;obtain⟨au,nu,cu,rfl⟩:=hu.tree.sl;obtain⟨an,nn,cn,rfl⟩:=hu.nodes.sl;obtain⟨ae,V,ad,rfl⟩:=SE.sl hu.steps;obtain⟨aq,cq,rfl,p1,s1⟩:=hq.shape;obtain⟨ah,nh,ch,rfl⟩:=aA hs.1;obtain⟨ai,ni,ci,rfl⟩:=aA hi;obtain⟨J,hJ⟩:∃ J,a.length=J:=⟨_,rfl⟩;rw[hJ] at G H I HQ p1 aP ⊢;have HO:=Lib.hid ho;have H0:=Lib.hid h0;have F:Hid (gc<w.heap.size):=(Iz.1 ho.cnt).1;clear hu hq hs hi ho h0 M hJ aR az L aB;go_enter func58,ntmps58;go_wp2_with fail;obtain⟨c,D⟩:∃ c,(w.alloc (.cells #[.slice au nu cu,.int .i64 (i:Int),.slice an nn cn,.slice ae V ad] 95)).alloc (.cells #[.int .i64 x,.slice aq J cq] 99)=c:=⟨_,rfl⟩;have HB:Hid (Bx c w.heap.size 95 #[.slice au nu cu,.int .i64 (i:Int),.slice an nn cn,.slice ae V ad]):=by unfold Hid;rw[<-D];exact(Bx.new w _ _).kp ((Kp.refl _).alloc _)
 have A:Hid (Kp w c):=by unfold Hid;rw[<-D];exact((Kp.refl _).alloc _).alloc _
 rw[D];clear D;go_loopw[12,21] (λaL Q wr=>∃ j:Nat,j<=J/\Q=.int .i64 (j:Int)/\GZ dl 92 (λg=>g<c.heap.size) wr c.heap.size aL ((cA t secret info b m a).take j)/\dC wr gc N secret (m+j)/\aj (λg=>g=gc) c wr) (λ_ Q _=>(J - (intOf Q).toNat))
 case atStart=>exact⟨0,IO _,rfl,GZ.nil _ _ _,HO.out.kp A.out,aj.refl _ _⟩
 case round=>
  obtain⟨j,hj,rfl,f,aw,ab⟩:=hrel;have B:=Lib.hid (IC f (IC aw ab));have KW:Hid (Kp w0 wr):=Kp.stepOld (H0.out.trans A.out) ab λg d=>by rw[d];exact aK.out
  obtain⟨ax,nx,cx,rfl⟩:=SE.sl f.gl;clear f aw ab;by_cases E:j<J
  ·obtain⟨gq,oq,rfl,_,aC⟩:=(HQ.out.kp KW.out).at j E
   have c0:=aC j E;obtain⟨y,X,aN,aM⟩:=I.out j E;rw[X] at c0;obtain⟨pv,rp,O⟩:=z.out y aN;have aW:=Lib.hid O;have RP:=Lib.hid rp;obtain⟨ap,np,cp,rfl⟩:=aA rp;have a1:=Lib.hid (ag.out (ats t y).pub (m+j) aM);have aT:Hid ((cA t secret info b m a).take (j+1)=(cA t secret info b m a).take j++[⟨il (ats t y).pub (dG secret (m+j)),io (ats t y).pub (dG secret (m+j)) info b⟩]):=by
    have:=G.out j E;unfold seS at this;rw[X,IM] at this;exact this
   have i1:IntKind.i64.wrap ((j:Int)+1)=(j:Int)+1:=IA _ (by omega);have i3:(j:Int)<(J:Int):=by omega
   have hb:=HB.out;have r:Bx wr w.heap.size 95 #[.slice au nu cu,.int .i64 (i:Int),.slice an nn cn,.slice ae V ad]:=(B.out.2.2.block w.heap.size (Iz.1 hb).1 (λe=>by have:=F.out;omega)).trans hb;have e0:=r.cell 0;have e1:=r.cell 1;have e2:=r.cell 2;have e3:=r.cell 3;simp only[IJ,IF,IK] at e0 e1 e2 e3;have aU:Hid (((cA t secret info b m a).take j).length+1<=1000000):=by unfold Hid;rw[Ja];omega
   generalize aQ:(cA t secret info b m a).take j=TK at *;generalize (ats t y).pub=af at *;clear aC X O rp aQ hb r z I ag G H;go_wp2_with fail;refine(aW.out wr KW.out).mono ?_;rintro _ wa ⟨rfl,ka⟩;have KA:=Lib.hid ka;clear ka;go_wp2_with(go_at_call 99;refine(aX.out wa (m+j) (B.out.2.1.kp KA.out) (by omega)).mono ?_;rintro _ T ⟨⟨a3,rfl,rb,nb⟩,ay,p⟩)
   obtain⟨a6,a4,a5,rfl⟩:=aA rb;have aH:Hid (Kp w0 T):=Kp.stepOld (KW.out.trans KA.out) p λg d=>by rw[d];exact aK.out
   have aZ:Hid (GZ dl 92 (λg=>g<c.heap.size) T c.heap.size (.slice ax nx cx) TK):=
    (B.out.1.kp KA.out).step (Y:=λg=>g=gc) p (λg d=>.inl (by have:=F.out;have:=A.out.size;omega)) (λg d e=>by have:=(B.out.1.lt g d).1;have:=F.out;have:=A.out.size;omega)
   have aI:Hid (aj (λg=>g=gc) c T):=(B.out.2.2.next (aj.of_kp KA.out)).next p;have aY:=Lib.hid ay;have u:Hid (c.heap.size<=wr.heap.size/\wr.heap.size<=T.heap.size):=⟨B.out.2.2.size,IU KA.out.size p.size⟩;have aJ:Hid (∀ g,(Value.slice ax nx cx).ownBlock=some g->g<wr.heap.size):=λg d=>(B.out.1.lt g d).2
   refine(aS.out T aH.out _ _ af (dG secret (m+j)) (RP.out.kp aH.out) rb (aV.out.step ((aj.of_kp A.out).next aI.out)).1).mono ?_;rintro _ wc ⟨⟨vh,vb,rfl,rh,U,nh,am⟩,kc⟩;rw[a1.out];obtain⟨aF,al,aD,rfl⟩:=aA rh;obtain⟨aG,ao,aE,rfl⟩:=aA U;have a0:Hid (dl.R (λg=>some g=(Value.slice ax nx cx).ownBlock\/g<c.heap.size) wc [.slice aF al aD,.slice aG ao aE] ⟨il af (dG secret (m+j)),io af (dG secret (m+j)) info b⟩):=
    ⟨_,_,rfl,⟨rh,dU (C:=T.heap.size) nh λg d=>d.elim (λh=>by have:=aJ.out g h.symm;have:=u.out;omega) λh=>by have:=u.out;omega⟩,
     ⟨U,dU (C:=T.heap.size) am λg d=>d.elim (λh=>by have:=aJ.out g h.symm;have:=u.out;omega) λh=>by have:=u.out;omega⟩⟩
   have ak:=Lib.hid (aZ.out.kp kc);have KC:=Lib.hid kc;have a2:Hid (c.heap.size<=wc.heap.size):=by have:=u.out;have:=kc.size;unfold Hid;omega
   clear rh U nh am kc rb nb ay p e0 e1 e2 e3 c0;go_wp2_with(at_builtin;refine gQ (S:=dl) (Z:=λg=>g<c.heap.size) (o:=⟨some 45,_,_,_,_,_⟩) seK rfl _ _ rfl c.heap.size _ TK rfl (ak.out.kp ((Kp.refl _).alloc _)) _ [_] rfl (SE.litZ (S:=dl) 92 a0.out rfl) (by exact aU.out) (IU a2.out (by simp)) ?_;intro vF wh oh gh qh)
   rw[<-aT.out] at oh;have P:Hid (dC wh gc N secret (m+(j+1))/\aj (λg=>g=gc) c wh):=by
    have av:aj (λg=>g=gc) c wh:=((aI.out.next (aj.of_kp KC.out)).next (aj.of_kp ((Kp.refl _).alloc _))).then gh λg d=>.inl (ak.out.lt g d).1
    have ho:=(aY.out.kp KC.out).kp ((Kp.refl wc).alloc (.cells #[.slice aF al aD,.slice aG ao aE] 92));have l1:gc<c.heap.size:=by have:=F.out;have:=A.out.size;omega
    obtain⟨_,⟨v,h2,h3⟩,h4⟩:=HO.out;have ar:aj (λg=>g=gc) w wh:=(aj.of_kp A.out).next av;exact⟨⟨ho.cnt.grown gh (λe=>by have:=(ak.out.lt _ e.symm).1;omega),⟨v,(ar.block N (Iz.1 h2).1 (λe=>h4 e.symm)).trans h2,h3.step ar⟩,h4⟩,av⟩
   go_roundw
   case rel=>exact⟨j+1,by omega,by first|rfl|(rw[i1];rfl),oh,P.out.1,P.out.2⟩
   case measure=>simp[intOf];omega
  ·obtain rfl:j=J:=by omega
   have h1:¬(j:Int)<(j:Int):=by omega
   have f:=B.out.1;rw[H.out] at f;have HF:=Lib.hid (IC ((f.solidly λg d=>.inr (.inl (show g<c.heap.size from II d A.out.size))).mono A.out.size) (IC B.out.2.1 ((aj.of_kp A.out).next B.out.2.2)));clear f z I ag G H;go_wp2_with fail;go_ret2;exact⟨⟨_,rfl,HF.out.1⟩,HF.out.2.1,HF.out.2.2⟩
section
open Go.Maps
theorem Iu {l:List Nat}{k:Nat}:(l.drop k).getD j 0=l.getD (k+j) 0:=by
 rw[Iw,Iw,Kn]
theorem Hc (aa n s x y vs:Value)(t:List Nod)(K i k m F:Nat)(S:Sd->Prop)(b:List UInt8)(p:Pa)(w:World)(O:WIn w aa n s t K i)(hm:KM prog 3 w m F S)(hp:PIn w x y p)(Z:Rd w vs b)(a7:b.length=32)
  (hk:k<(ixS t i K).length) (hM:(ixS t i K).length<=10) (a3:p.step.length=(ixS t i K).length) (bV:F<=100000) (hd:∀ a,S a->∀ z∈(aw t i K).drop k,a.node≠(z:Int)) (B:∀ z∈aw t i K,z<=100000):
  Calls prog 71 #[.agg #[aa,.int .i64 (i:Int),n,s],.int .i64 (k:Int),.map (some m),vs,.agg #[x,y]] w λe w'=>
   (∃ r E,e=.returned (.tuple #[r,.int .i64 E])/\((jo p.step b k (ixS t i K).length/\E=0/\Rd w' r (aV b ((ixS t i K).length - k))/\KM prog 3 w' m (F+((ixS t i K).length - k)) (fd S b ((aw t i K).drop k) ((ixS t i K).length - k)))\/(¬jo p.step b k (ixS t i K).length/\E=5/\Rd w' r [])))/\aj (λg=>g=m) w w':=by
 have bh:=(dR t i K).1;have a2:=gI t i K;have be:=Lib.hid (λW (u:Kp w W)=>yo vs b ((ixS t i K).length - k) W (Z.kp u) a7 (by omega));have bi:((aw t i K).drop k).Nodup:=(jq t i K).sublist (List.drop_sublist _ _);have bg:((aw t i K).drop k).length=(ixS t i K).length - k:=by rw[JK,bh]
 have aP:=Lib.hid (λj (h:j<(ixS t i K).length - k) (z:Sd)=>xY (own:=S) (s:=b) (n:=j) bi hd (by rw[bg];exact h) z);have bP:=Lib.hid (λz=>xX (own:=S) (s:=b) (xs:=(aw t i K).drop k) z);have bb:=Lib.hid (λa (h:a<(ixS t i K).length)=>jU (t:=t) (i:=i) (m:=K) h);have aN:Hid (∀ j,j<(ixS t i K).length - k->((aw t i K).drop k).getD j 0=(aw t i K).getD (k+j) 0/\(aw t i K).getD (k+j) 0<=100000):=λj hj=>⟨Iu,B _ (by rw[Iw,Iy (by omega)];exact Jg _)⟩
 have aF:Hid (jo p.step b k (ixS t i K).length↔∀ j,j<(ixS t i K).length - k->aG (bf b j)=(am p.step (k+j)).pub):=⟨λh j hj=>h j (by omega),λh j hj=>h j (by omega)⟩;have bd:Hid (∀ j,dE (bf b j)=aG (bf b j)):=λj=>(eZ (jM _ fC)).2
 have bc:Hid (∀ j,bQ (aV b j) fC=bf b j):=λj=>rfl
 have bB:Hid (fF b ((ixS t i K).length - k)=aV b ((ixS t i K).length - k)):=by unfold Hid fF;rw[if_neg (by omega)]
 have aW:=Lib.hid (λj (h:j<(ixS t i K).length - k)=>ru b h);have aU:=Lib.hid (jr b ((ixS t i K).length - k));have ax:=Lib.hid (λW (x:Int) (q v:Value) (c:List Int) j (hq:RI W q c) (Z:Rd W v (aV b j))=>yi x q v c (aV b j) W hq Z (by rw[iq a7 j];omega));have az:=Lib.hid (λW (aa:Value) j (O:Rd W aa (bf b j))=>xJ aa (bf b j) W O);simp only[bd.out] at az;simp only[bc.out] at ax;have aX:=Lib.hid (λW (aa v:Value) (l m:List UInt8) (O:Rd W aa l) (Z:Rd W v m)=>ln aa v l m W O Z);have aO:=Lib.hid O.steps;have aQ:=Lib.hid hp.step;have HM:=Lib.hid hm;obtain⟨au,nu,cu,rfl⟩:=O.tree.sl;obtain⟨an,nn,cn,rfl⟩:=O.nodes.sl;obtain⟨bY,aM,rfl,q5,q6⟩:=SE.shape O.steps;obtain⟨ap,np,cp,rfl⟩:=aA hp.pub;obtain⟨a6,c6,rfl,q9,bG⟩:=SE.shape hp.step;obtain⟨gs,os,rfl,_,_⟩:=SE.at O.steps (by omega);obtain⟨T,R,rfl,_,_⟩:=SE.at hp.step (by omega);obtain⟨av,nv,cv,rfl⟩:=aA Z;rw[a2] at q5 aO ⊢;rw[a3] at q9 aQ ⊢;generalize jo p.step b k (ixS t i K).length=HP at *;generalize fd S b ((aw t i K).drop k)=HL at *;generalize (aw t i K).drop k=XS at *;generalize aw t i K=ST at *;have bC:=Lib.hid a3;have bA:=Lib.hid a2;generalize (ixS t i K).length=M at *;obtain⟨J,hJ⟩:∃ J,M - k=J:=⟨_,rfl⟩;have bo:M=k+J:=by omega
 have bL:0<J/\J<=10:=by omega
 rw[hJ] at be aP aN aF bB aW aU ⊢;have i2:IntKind.i64.wrap ((M:Int) - (k:Int))=(J:Int):=by rw[IA _ (by omega)];omega
 unfold maxLen at q6 bG;have bW:¬(M:Int)<(k:Int):=by omega
 have bX:(M:Int)<=(aM:Int):=by omega
 have aB:=Lib.hid bo;clear O hm hp Z a7 a3 hd B bh a2 bi bg bo;go_enter func71,ntmps71;go_wp2_with fail;obtain⟨w1,Y⟩:∃ w1,(w.alloc (.cells #[.slice au nu cu,.int .i64 (i:Int),.slice an nn cn,.slice (some ⟨gs,os,none⟩) M aM] 95)).alloc (.cells #[.slice ap np cp,.slice (some ⟨T,R,none⟩) M c6] 27)=w1:=⟨_,rfl⟩;have HB:Hid (Bx w1 w.heap.size 95 #[.slice au nu cu,.int .i64 (i:Int),.slice an nn cn,.slice (some ⟨gs,os,none⟩) M aM]):=by unfold Hid;rw[<-Y];exact(Bx.new w _ _).kp ((Kp.refl _).alloc _)
 have bU:Hid (Bx w1 (w.heap.size+1) 27 #[.slice ap np cp,.slice (some ⟨T,R,none⟩) M c6]):=by
  unfold Hid;have:=Bx.new (w.alloc (.cells #[.slice au nu cu,.int .i64 (i:Int),.slice an nn cn,.slice (some ⟨gs,os,none⟩) M aM] 95)) 27 #[.slice ap np cp,.slice (some ⟨T,R,none⟩) M c6];rw[IQ] at this;rw[<-Y];exact this
 have K1:Hid (Kp w w1):=by unfold Hid;rw[<-Y];exact((Kp.refl _).alloc _).alloc _
 rw[Y];clear Y;refine(be.out w1 K1.out).mono ?_;rintro _ w2 ⟨⟨o2,r2,rfl,ah,aJ,_⟩,k2⟩;obtain⟨ae,ce,rfl,q1,q2⟩:=SE.shape ah;rw[aU.out] at ah q1 ⊢;obtain⟨ge,oe,rfl,_,_⟩:=SE.at ah bL.1;obtain⟨ar,nr,cr,rfl⟩:=aA aJ;rw[bB.out] at aJ;have bT:=Lib.hid ah;have bR:=Lib.hid aJ;have K2:=Lib.hid k2;have U:=Lib.hid (K1.out.trans k2);have bx:=Lib.hid (HM.out.kp U.out);have d3:=(HB.out.kp k2).cell 3;simp only[IJ,IF,IK] at d3;clear ah aJ k2 be;go_wp2_with fail;have bS:Hid (¬bO w2 m):=bx.out.nosolid;go_loopw[31] (λz wr=>∃ j:Nat,j<=J/\z=.int .i64 (j:Int)/\KM prog 3 wr m (F+j) (HL j)/\(∀ a,a<j->aG (bf b a)=(am p.step (k+a)).pub)/\aj (λg=>g=m) w2 wr) (λz _=>(J - (intOf z).toNat))
 case atStart=>exact⟨0,IO _,rfl,bx.out.congr λz=>bP.out z,λa h=>by omega,aj.refl _ _⟩
 case round=>
  obtain⟨j,hj,rfl,bj,aY,ab⟩:=hrel;have aS:=Lib.hid bj;have aR:=Lib.hid aY;have a0:=Lib.hid ab;have aI:Hid (Cs w2 wr):=ab.cs λg e=>by subst e;exact bS.out
  clear bj aY ab d3;by_cases B:j<J
  ·obtain⟨b1,o1,y1,q,e1,_,c0,c1,rq⟩:=aH.sp (i:=k+j) (aH.cs (aH.kp aO.out U.out) aI.out) (by rw[bA.out];have:=aB.out;omega)
   rw[bA.out] at e1;simp only[IG,Jo,JY,and_true] at e1;obtain⟨⟨rfl,rfl⟩,_,rfl⟩:=e1;rw[bb.out (k+j) (by have:=aB.out;omega)] at c0 rq;dsimp only at c0 rq
   obtain⟨x1,x2⟩:=aN.out j B;rw[<-x1] at c0 x2;rw[show os+(k+j)*2=os+k*2+j*2 by omega] at c0 c1;obtain⟨b2,o2,y2,ve,e2,_,c2,rv⟩:=aH.bs (i:=j) (aH.cs bT.out aI.out) (by rw[aU.out];exact B);rw[aU.out] at e2;simp only[IG,Jo,JY,and_true] at e2;obtain⟨⟨rfl,rfl⟩,_,rfl⟩:=e2;have bk:jR (dB b J) j=aV b j:=aW.out j B;rw[bk] at rv;obtain⟨b3,o3,y3,pv,qv,e3,_,c3,_,rp,_⟩:=eG.node (i:=k+j) (aH.cs (aH.kp aQ.out U.out) aI.out) (by rw[bC.out];have:=aB.out;omega);rw[bC.out] at e3;simp only[IG,Jo,JY,and_true] at e3;obtain⟨⟨rfl,rfl⟩,_,rfl⟩:=e3;have G:=Lib.hid (aP.out j B);have a1:Hid (aG (bf b j)=(am p.step (k+j)).pub->∀ a,a<j+1->aG (bf b a)=(am p.step (k+a)).pub):=λh a ha=>by
    rcases Jc (Jn.1 ha) with h3|h3
    ·exact aR.out a h3
    ·rw[h3];exact h
   have bv:Hid (¬aG (bf b j)=(am p.step (k+j)).pub->¬HP):=λh hp=>h (aF.out.1 hp j B)
   obtain⟨X,hX⟩:∃ X,XS.getD j 0=X:=⟨_,rfl⟩;rw[hX] at c0 x2 G;obtain⟨ba,aZ⟩:∃ P,(am p.step (k+j)).pub=P:=⟨_,rfl⟩;rw[aZ] at rp a1 bv;obtain⟨aq,nq,cq,rfl⟩:=rq.sl;obtain⟨a9,n9,c9,rfl⟩:=aA rv;obtain⟨ak,V,ai,rfl⟩:=aA rp;obtain⟨CV,bp⟩:∃ C,(aT t i K).getD (k+j) []=C:=⟨_,rfl⟩;rw[bp] at rq;have i1:IntKind.i64.wrap ((j:Int)+1)=(j:Int)+1:=IA _ (by omega);have i4:IntKind.i64.wrap ((k:Int)+(j:Int))=(k:Int)+(j:Int):=IA _ (by have:=aB.out;omega);have i6:¬(k:Int)+(j:Int)<0:=by omega
   have i7:((k:Int)+(j:Int)).toNat=k+j:=by omega
   have i8:(0:Int)<=(k:Int)+(j:Int):=by omega
   have i3:(j:Int)<(J:Int):=by omega
   have i5:(k:Int)+(j:Int)<(M:Int):=by have:=aB.out;omega
   have D:Go.keyOf prog 3 (.int .i64 (X:Int))=some (.int .i64 (X:Int)):=keyOf_int_mk underlying3 (Ku (by omega));have ad:=D;have bl:F+j<maxLen:=by unfold maxLen;omega
   obtain⟨A,aL⟩:∃ x,wr.alloc (.cells #[.int .i64 (X:Int),.slice aq nq cq] 99)=x:=⟨_,rfl⟩;have KQ:Hid (Kp wr A):=by unfold Hid;rw[<-aL];exact(Kp.refl _).alloc _
   have bm:Bx A wr.heap.size 99 #[.int .i64 (X:Int),.slice aq nq cq]:=by rw[<-aL];exact Bx.new wr _ _
   have bE:=Lib.hid bm;have CQ:Hid (Cs wr A):=KQ.out.cs;have CD:Hid (Cs A A.drew):=(Kp.refl A).drew.cs;have ay:Hid (∀ W,Cs A W->W.cell? ⟨wr.heap.size,0,none⟩=some (.int .i64 (X:Int))/\W.cell? ⟨wr.heap.size,1,none⟩=some (.slice aq nq cq)/\W.cell? ⟨ge,oe+j,none⟩=some (.slice a9 n9 c9)):=λW u=>
    ⟨(bE.out.cs u).cell 0,(bE.out.cs u).cell 1,(CQ.out.trans u).cell c2⟩
   have bz:=Lib.hid (ay.out _ CD.out);have bn:=bU.out.kp K2.out;have bD:Hid (∀ W,Cs A W->W.cell? ⟨w.heap.size+1,1,none⟩=some (.slice (some ⟨T,R,none⟩) M c6)/\W.cell? ⟨T,R+(k+j)*2,none⟩=some (.slice ak V ai)):=λW u=>
    ⟨((bn.cs aI.out).cs (CQ.out.trans u)).cell 1,(CQ.out.trans u).cell c3⟩
   have bt:=Lib.hid (λW (u:Cs A W)=>rq.cs (CQ.out.trans u));have br:=Lib.hid (λW (u:Cs A W)=>rv.cs (CQ.out.trans u));have bu:=Lib.hid (λW (u:Cs A W)=>rp.cs (CQ.out.trans u));have bw:=Lib.hid (aS.out.kp KQ.out);have bq:Hid (aj (λg=>g=m) w2 A):=a0.out.next (aj.of_kp KQ.out);clear bm bn hX aZ bp bk x1 rq rv rp aP bb aN aF bd bc aW aO aQ aR c2 c3 aS;by_cases aK:aG (bf b j)=ba
   ·have N:=Lib.hid (λW (aa v:Value) (O:Rd W aa (aG (bf b j))) (Z:Rd W v ba)=>aX.out W aa v _ _ O Z)
    rw[IY aK] at N;clear aX;go_wp2_with fail;try rw[aL]
    go_region_held3 (λW=>W.cell? ⟨wr.heap.size,0,none⟩=some (.int .i64 (X:Int))/\W.cell? ⟨wr.heap.size,1,none⟩=some (.slice aq nq cq)/\W.cell? ⟨ge,oe+j,none⟩=some (.slice a9 n9 c9))
     (first|with_reducible exact bz.out|with_reducible exact S5.out|with_reducible exact S6.out)
     (first
      | (go_at_call 59;refine(ax.out _ (X:Int) _ _ _ j (bt.out _ CD.out) (br.out _ CD.out)).mono ?_;rintro _ w5 ⟨⟨v5,rfl,r5,bI⟩,k5⟩;obtain⟨a5,n5,c5,rfl⟩:=aA r5;have C5:Hid (Cs A w5):=CD.out.trans k5.cs;have S5:=Lib.hid (ay.out _ C5.out);have L:=Lib.hid (bw.out.kp ((Kp.refl A).drew.trans k5));have ao:Hid (fX w5 (.agg #[.int .i64 (X:Int),.slice a5 n5 c5]) ⟨(X:Int),bf b j⟩):=⟨_,rfl,r5⟩;have al:Hid (aj (λg=>g=m) w2 w5):=bq.out.next (aj.of_kp ((Kp.refl A).drew.trans k5));obtain⟨d,o,a4,ag⟩:=yr (e:=90) 103 fm underlying103 L.out bl ⟨(X:Int),bf b j⟩ _ D ao.out;dsimp only at o;have aE:=Lib.hid a4;have C6:Hid (Cs A d):=C5.out.trans (Cs.grown ag L.out.nosolid);have S6:=Lib.hid (ay.out _ C6.out);have G6:Hid (aj (λg=>g=m) w2 d):=al.out.then ag (λg hg=>by cases hg;exact .inr rfl)))
    have aD:Hid (KM prog 3 d m (F+(j+1)) (HL (j+1))):=aE.out.congr λy=>G.out y
    have af:HL (j+1) ⟨(X:Int),bf b j⟩:=(G.out _).2 (.inl rfl);have zs:=jW d.drew;have aC:=Lib.hid (aD.out.kp (Kp.refl d).drew);have bK:=pJ (X:Int);obtain⟨qd,f,H⟩:=sm (e:=90) 103 fm underlying103 zs aC.out ⟨(X:Int),bf b j⟩ af ad;obtain⟨bN,bJ,bM,rfl⟩:=aA H;dsimp only [sdV] at f
    obtain⟨g0,_,_⟩:=S6.out;have I:Hid (∀ W,Cs d W->W.cell? ⟨wr.heap.size,0,none⟩=some (.int .i64 (X:Int))/\W.cell? ⟨w.heap.size+1,1,none⟩=some (.slice (some ⟨T,R,none⟩) M c6)/\W.cell? ⟨T,R+(k+j)*2,none⟩=some (.slice ak V ai)):=λW u=>⟨u.cell S6.out.1,bD.out _ (C6.out.trans u)⟩
    have C7:Hid (Cs d d.drew):=(Kp.refl d).drew.cs;have S7:=Lib.hid (I.out _ C7.out);clear bz S5 S6 L ao al ax D g0 aE o;go_wp2_with fail;go_region_held3 (λW=>W.cell? ⟨wr.heap.size,0,none⟩=some (.int .i64 (X:Int))/\W.cell? ⟨w.heap.size+1,1,none⟩=some (.slice (some ⟨T,R,none⟩) M c6)/\W.cell? ⟨T,R+(k+j)*2,none⟩=some (.slice ak V ai))
     (first|with_reducible exact S7.out|with_reducible exact S8.out|with_reducible exact S9.out)
     (first
      | (go_at_call 52;refine(N.out _ _ _ R8.out (bu.out _ (C6.out.trans C8.out))).mono ?_;rintro _ w9 ⟨rfl,k9⟩;have C9:=Lib.hid (C8.out.trans k9.cs);have S9:=Lib.hid (I.out _ C9.out);have K9:=Lib.hid (K8.out.trans k9))
      | (go_at_call 55;refine(az.out _ _ j H).mono ?_;rintro _ w8 ⟨⟨v8,rfl,r8,bH⟩,k8⟩;obtain⟨a8,n8,c8,rfl⟩:=aA r8;have R8:=Lib.hid r8;have K8:Hid (Kp d w8):=(Kp.refl d).drew.trans k8;have C8:=Lib.hid (K8.out.cs);have S8:=Lib.hid (I.out _ C8.out)))
    have KF:=Lib.hid (aD.out.kp K9.out);have GF:Hid (aj (λg=>g=m) w w9):=(aj.of_kp U.out).next (G6.out.next (aj.of_kp K9.out));have bF:Hid (aj (λg=>g=m) w2 w9):=G6.out.next (aj.of_kp K9.out);clear S7 S8 S9 aC zs N az R8 f H;go_wp2_with fail;go_roundw
    case rel=>exact⟨j+1,by omega,by first|rfl|(rw[i1];rfl),KF.out,a1.out aK,bF.out⟩
    case measure=>simp[intOf];omega
   ·have N:=Lib.hid (λW (aa v:Value) (O:Rd W aa (aG (bf b j))) (Z:Rd W v ba)=>aX.out W aa v _ _ O Z)
    rw[IS aK] at N;clear aX;go_wp2_with fail;try rw[aL]
    go_region_held3 (λW=>W.cell? ⟨wr.heap.size,0,none⟩=some (.int .i64 (X:Int))/\W.cell? ⟨wr.heap.size,1,none⟩=some (.slice aq nq cq)/\W.cell? ⟨ge,oe+j,none⟩=some (.slice a9 n9 c9))
     (first|with_reducible exact bz.out|with_reducible exact S5.out|with_reducible exact S6.out)
     (first
      | (go_at_call 59;refine(ax.out _ (X:Int) _ _ _ j (bt.out _ CD.out) (br.out _ CD.out)).mono ?_;rintro _ w5 ⟨⟨v5,rfl,r5,bI⟩,k5⟩;obtain⟨a5,n5,c5,rfl⟩:=aA r5;have C5:Hid (Cs A w5):=CD.out.trans k5.cs;have S5:=Lib.hid (ay.out _ C5.out);have L:=Lib.hid (bw.out.kp ((Kp.refl A).drew.trans k5));have ao:Hid (fX w5 (.agg #[.int .i64 (X:Int),.slice a5 n5 c5]) ⟨(X:Int),bf b j⟩):=⟨_,rfl,r5⟩;have al:Hid (aj (λg=>g=m) w2 w5):=bq.out.next (aj.of_kp ((Kp.refl A).drew.trans k5));obtain⟨d,o,a4,ag⟩:=yr (e:=90) 103 fm underlying103 L.out bl ⟨(X:Int),bf b j⟩ _ D ao.out;dsimp only at o;have aE:=Lib.hid a4;have C6:Hid (Cs A d):=C5.out.trans (Cs.grown ag L.out.nosolid);have S6:=Lib.hid (ay.out _ C6.out);have G6:Hid (aj (λg=>g=m) w2 d):=al.out.then ag (λg hg=>by cases hg;exact .inr rfl)))
    have aD:Hid (KM prog 3 d m (F+(j+1)) (HL (j+1))):=aE.out.congr λy=>G.out y
    have af:HL (j+1) ⟨(X:Int),bf b j⟩:=(G.out _).2 (.inl rfl);have zs:=jW d.drew;have aC:=Lib.hid (aD.out.kp (Kp.refl d).drew);have bK:=pJ (X:Int);obtain⟨qd,f,H⟩:=sm (e:=90) 103 fm underlying103 zs aC.out ⟨(X:Int),bf b j⟩ af ad;obtain⟨bN,bJ,bM,rfl⟩:=aA H;dsimp only [sdV] at f
    obtain⟨g0,_,_⟩:=S6.out;have I:Hid (∀ W,Cs d W->W.cell? ⟨wr.heap.size,0,none⟩=some (.int .i64 (X:Int))/\W.cell? ⟨w.heap.size+1,1,none⟩=some (.slice (some ⟨T,R,none⟩) M c6)/\W.cell? ⟨T,R+(k+j)*2,none⟩=some (.slice ak V ai)):=λW u=>⟨u.cell S6.out.1,bD.out _ (C6.out.trans u)⟩
    have C7:Hid (Cs d d.drew):=(Kp.refl d).drew.cs;have S7:=Lib.hid (I.out _ C7.out);clear bz S5 S6 L ao al ax D g0 aE o;go_wp2_with fail;go_region_held3 (λW=>W.cell? ⟨wr.heap.size,0,none⟩=some (.int .i64 (X:Int))/\W.cell? ⟨w.heap.size+1,1,none⟩=some (.slice (some ⟨T,R,none⟩) M c6)/\W.cell? ⟨T,R+(k+j)*2,none⟩=some (.slice ak V ai))
     (first|with_reducible exact S7.out|with_reducible exact S8.out|with_reducible exact S9.out)
     (first
      | (go_at_call 52;refine(N.out _ _ _ R8.out (bu.out _ (C6.out.trans C8.out))).mono ?_;rintro _ w9 ⟨rfl,k9⟩;have C9:=Lib.hid (C8.out.trans k9.cs);have S9:=Lib.hid (I.out _ C9.out);have K9:=Lib.hid (K8.out.trans k9))
      | (go_at_call 55;refine(az.out _ _ j H).mono ?_;rintro _ w8 ⟨⟨v8,rfl,r8,bH⟩,k8⟩;obtain⟨a8,n8,c8,rfl⟩:=aA r8;have R8:=Lib.hid r8;have K8:Hid (Kp d w8):=(Kp.refl d).drew.trans k8;have C8:=Lib.hid (K8.out.cs);have S8:=Lib.hid (I.out _ C8.out)))
    have KF:=Lib.hid (aD.out.kp K9.out);have GF:Hid (aj (λg=>g=m) w w9):=(aj.of_kp U.out).next (G6.out.next (aj.of_kp K9.out));have bF:Hid (aj (λg=>g=m) w2 w9):=G6.out.next (aj.of_kp K9.out);clear S7 S8 S9 aC zs N az R8 f H;go_wp2_with fail;go_ret2;exact⟨⟨_,_,rfl,.inr ⟨bv.out aK,rfl,cQ _⟩⟩,GF.out⟩
  ·obtain rfl:j=J:=by omega
   have h1:¬(j:Int)<(j:Int):=by omega
   have Q:Hid (HP/\Rd wr (.slice ar nr cr) (aV b j)/\KM prog 3 wr m (F+j) (HL j)/\aj (λg=>g=m) w wr):=⟨aF.out.2 aR.out,bR.out.cs aI.out,aS.out,(aj.of_kp U.out).next a0.out⟩;clear aP bb aN aF bd bc aW aO aQ aR aS;go_wp2_with fail;go_ret2;exact⟨⟨_,_,rfl,.inl ⟨Q.out.1,rfl,Q.out.2.1,Q.out.2.2.1⟩⟩,Q.out.2.2.2⟩
