import Derived.Test.YthmhklmkgkfcpaaGreatDoorW12
import Derived.RangeFuncBox
import Derived.Maps.OwnIn
set_option linter.all false
set_option maxHeartbeats 8000000
set_option maxRecDepth 100000
namespace Go.Proofs.YthmhklmkgkfcpaaGreatDoor
open Go.Proofs.Tryz Go.RowKit
variable {A w w0:World}{F:Fence}{K:Act->World->Prop}{L:List Nat}{P:Program}{Q:Exit->Act->World->Prop}{R Y:Nat->Prop}{a:Act}{b:Array Bool}{c d i j n:Nat}{e:TypeId}{o oj:Oper}{v:Value}
section
variable {F : Fence} {n : Nat} {P : Program} {ops : Array Oper} {Q : Exit -> Act -> World -> Prop} {md : Region.Mode} {S : World -> Prop}
structure gD (P:Program)(ops:Array Oper)(S:World->Prop)(o:Oper)(v:Value)(a:Act):Prop where
 nodefer:∀ c,o.op≠.defer c
 about:∀ w,o.about P w a.eval=none
 yields:(Region.wanted o (yielded ops a.tmps)=true/\∀ w,S w->(execOp a.eval o).run P w=.ok (.value v) w)\/(Region.wanted o (yielded ops a.tmps)=false/\v=undef)
def pf (ops:Array Oper):Bool:=ops.all λo=>match o.op with|.defer _=>false|_=>true
theorem BS (h:pf ops=true)(a:ops[j]?=some o):∀ c,o.op≠.defer c:=λc e=>by
 have:=Lo.1 h o (Array.mem_of_getElem? a);rw[e] at this;cases this
theorem gD.put (h:gD P ops S o v a)(e:∀ cs b,o.op≠.select cs b)(u:Value)(c:∀ d,oj.dst=some d->d∉o.looksAt ops):gD P ops S o v (a.put oj.dst u):=by
 obtain⟨i,g,f⟩:=h;refine⟨i,λw=>(about_put o w a oj.dst u c).trans (g w),?_⟩;rw[wanted_put o a oj.dst u c,execOp_put o e a oj.dst u c];exact f
theorem gD.run (h:gD P ops S o v a)(e:ops[i]?=some o)(g:S w)(d:K (a.put o.dst v) w):wpOpIn F n P ops Q i K a w:=by
 have b:∀ f,o.about P w a.eval=some f->F.fn f:=λf c=>by rw[h.about w] at c;cases c
 unfold wpOpIn;simp only[e];rcases h.yields with⟨hw,hv⟩|⟨hw,rfl⟩
 ·rw[if_pos hw]
  exact⟨b,by rw[Oper.semAt_plain F _ _ h.nodefer,hv w g];exact d⟩
 ·rw[if_neg (by rw[hw];decide)]
  exact⟨b,d⟩
theorem gD.later (h:gD P ops S o v a)(y:pf ops=true)(t:Region.noSelect ops=true)(J:ops[i]?=some o)(z:ops[j]?=some oj)
  (A:o.apart ops oj=true) (B:∀ c a w,Q (.panic c) (a.put o.dst v) w->Q (.panic c) a w) (q:wpOpIn F n P ops Q j K (a.put o.dst v) w):
  wpOpIn F n P ops Q j (λG w'=>gD P ops S o v G/\K (G.put o.dst v) w') a w:=by
 obtain⟨p1,p2,C⟩:=Oper.apart_spec A;have x:=λcs b=>Region.noSelect_spec t j oj cs b z
 have s:=λcs b=>Region.noSelect_spec t i o cs b J
 have E:=BS y z;have g:∀ u w',K ((a.put o.dst v).put oj.dst u) w'->gD P ops S o v (a.put oj.dst u)/\K ((a.put oj.dst u).put o.dst v) w':=λu w' I=>⟨h.put s u C,by rw[<-Act.put_comm a v u p2];exact I⟩
 unfold wpOpIn at *;simp only[z] at *;rw[wanted_put oj a o.dst v p1,about_put oj w a o.dst v p1] at q;by_cases D:Region.wanted oj (yielded ops a.tmps)=true
 ·rw[if_pos D] at q ⊢
  unfold Oper.wpIn at *;rw[Oper.semAt_plain F _ _ E,about_put oj w a o.dst v p1,execOp_put oj x a o.dst v p1] at q;refine⟨q.1,?_⟩;rw[Oper.semAt_plain F _ _ E];have k:=q.2;obtain⟨r,H⟩:∃ r,(execOp a.eval oj).run P w=r:=⟨_,rfl⟩;rw[H] at k ⊢;match r,k with
  | .ok (.value u) w',k=>exact g u w' k
  | .ok .skip w',k=>exact g undef w' k
  | .ok (.defer d) w',k=>
   refine⟨gD.put (a:={ a with defers:=d :: a.defers }) (oj:=oj) ⟨h.nodefer,h.about,h.yields⟩ s undef C,?_⟩;rw[<-Act.put_comm _ v undef p2,<-Act.put_defers];exact k
  | .ok (.enter f args) w',k=>
   refine⟨k.1,k.2.mono λe p m=>?_⟩;match e,m with
   | .returned u,m=>exact g u p m
   | .panicked c,m=>exact B _ _ _ m
   | .outgrown,m=>exact m
  | .ok (.row row args) w',k=>exact⟨k.1,k.2.mono λu p m=>g u p m⟩
  | .ok (.round l f tmps assign body) w',k=>
   refine⟨k.1,k.2.mono λe p m=>?_⟩;match e,m with
   | .returned u,m=>exact g u p m
   | .panicked c,m=>exact B _ _ _ m
   | .outgrown,m=>exact m
  | .halt (.panic u) w',k=>exact B _ _ _ k
 ·rw[if_neg D] at q ⊢
  exact⟨q.1,g undef w q.2⟩
def bm (F:Fence)(n:Nat)(P:Program)(md:Region.Mode)(ops:Array Oper)(Q:Exit->Act->World->Prop)(S:World->Prop):Nat->Array Bool->Act->World->Prop
 | 0,listed,a,w=>Region.ready md ops listed=[]/\Q .normal a w
 | fuel+1,listed,a,w=>
  (Region.ready md ops listed=[]->Q .normal a w) /\
  ∀ i∈Region.ready md ops listed,wpOpIn F n P ops Q i (λa' w'=>S w'/\bm F n P md ops Q S fuel (listed.setIfInBounds i true) a' w') a w
theorem bm.any:∀ (fuel:Nat) (listed:Array Bool) (a:Act) (w:World),bm F n P md ops Q S fuel listed a w->wpAnyIn F n P md ops Q fuel listed a w
 | 0,_,_,_,h=>h
 | fuel+1,_,_,_,h=>⟨h.1,λi hi=>wpOpIn_mono (λa' w' h'=>bm.any fuel _ a' w' h'.2) (h.2 i hi)⟩
theorem bm.first {i:Nat}{o:Oper}{v:Value}(hnd:pf ops=true)(hns:Region.noSelect ops=true)(hi:ops[i]?=some o)(hQ:∀ c a w,Q (.panic c) (a.put o.dst v) w->Q (.panic c) a w):
  ∀ (fuel:Nat) (listed:Array Bool) (a:Act) (w:World),
   (∀ j oj,ops[j]?=some oj->j≠i->listed.getD j true=false->(∀ e∈oj.after,Region.binds md e=true->e.on≠i)->o.apart ops oj=true) ->
   i∈Region.ready md ops listed->gD P ops S o v a->S w->bm F n P md ops Q S fuel (listed.setIfInBounds i true) (a.put o.dst v) w->bm F n P md ops Q S (fuel+1) listed a w
 | fuel,listed,a,w,hfree,hr,hy,hS,H=>by
  refine⟨λh=>(by rw[h] at hr;cases hr),λj hj=>?_⟩
  by_cases hji:j=i
  ·subst hji
   exact hy.run hi hS ⟨hS,H⟩
  ·have hj':=ready_mono (i:=i) hj hji
   match fuel,H with
   | 0,H=>rw[H.1] at hj';cases hj'
   | fuel+1,H=>
    obtain⟨hjun,oj,hoj,hall⟩:=mem_ready.1 hj
    have hnot:∀ e∈oj.after,Region.binds md e=true->e.on≠i:=λe he hb heq=>by
     have h1:=hall e he hb
     have h0:=(mem_ready.1 hr).1
     rw[heq] at h1
     rcases Nat.lt_or_ge i listed.size with h'|h'
     ·simp[h'] at h0 h1;rw[h0] at h1;cases h1
     ·simp[My h'] at h1
    refine wpOpIn_mono ?_ (hy.later hnd hns hi hoj (hfree j oj hoj hji hjun hnot) hQ (H.2 j hj'))
    rintro a' w' ⟨hy',hS',H'⟩
    refine⟨hS',bm.first hnd hns hi hQ fuel (listed.setIfInBounds j true) a' w' (λk ok hk hki hun hno=>?_) (ready_mono hr (MX hji)) hy' hS' ?_⟩
    ·refine hfree k ok hk hki ?_ hno
     by_cases hjk:j=k
     ·subst hjk;exact hjun
     ·rwa [getD_set_ne true hjk] at hun
    ·rw[Array.setIfInBounds_comm _ _ hji]
     exact H'
theorem uW {b:Nat}(c:P.follows .mixedOrders=true)(h:bm F n P .any ops Q S ops.size (Array.replicate ops.size false) a w.drew):(Code.region b ops true).wpIn F n P Q a w:=
 wpIn_region_any c (bm.any _ _ _ _ h)
theorem bm.take (i:Nat)(v:Value)(g:ops[i]?=some o)(f:pf ops=true)(e:Region.noSelect ops=true)(l:Region.free md ops b i=true)
  (k:(Region.ready md ops b).contains i=true) (p:∀ c a w,Q (.panic c) (a.put o.dst v) w->Q (.panic c) a w) (m:S w) (j:gD P ops S o v a)
  (h:bm F n P md ops Q S d (b.setIfInBounds i true) (a.put o.dst v) w):bm F n P md ops Q S (d+1) b a w:=
 bm.first f e g p d b a w (Region.free_spec g l) (by simpa using k) j m h
theorem bm.one (i:Nat)(m:ops[i]?=some o)(e:Region.ready md ops b=[i])
  (h:∀ K:Act->World->Prop,(∀ d w',S w'->bm F n P md ops Q S c (b.setIfInBounds i true) d w'->K d w')->if Region.wanted o (yielded ops a.tmps)=true then Oper.wpIn F n P o a w K Q else (∀ f,o.about P w a.eval=some f->F.fn f)/\K (a.put o.dst undef) w):
  bm F n P md ops Q S (c+1) b a w:=by
 refine⟨λq=>(by rw[q] at e;cases e),λj g=>?_⟩;rw[e] at g;obtain rfl:j=i:=by simpa using g
 exact wpOpIn_step m (λr p=>h r (λd w' l k=>p d w' ⟨l,k⟩))
theorem bm.done (d:Region.ready md ops b=[])(h:Q .normal a w):bm F n P md ops Q S c b a w:=by
 cases c with
 | zero=>exact⟨d,h⟩
 | succ c=>exact⟨λ_=>h,λi e=>by rw[d] at e;cases e⟩
end
attribute [local go_sem] Oper.semAt_some
theorem xC (x n:Int)(w:World):
  Calls prog 125 #[.int .i64 x,.int .i64 n] w λe w'=>e=.returned (.func (.func 162) #[] #[.pointer (some ⟨w.heap.size,0,none⟩),.pointer (some ⟨w.heap.size+1,0,none⟩)])/\(w.alloc (.cells #[.int .i64 x] 3)).alloc (.cells #[.int .i64 n] 3)=w':=by
 go_enter func125,ntmps125;go_wp2;go_ret;exact⟨rfl,rfl⟩
theorem Eg (K j q G C:Nat)(w:World)(T:K<=10)(hj:j<=K)(M:q<2 ^ (K - j))(B:w.cell? ⟨G,0,none⟩=some (.int .i64 ((nd j q:Nat):Int)))(h2:w.cell? ⟨C,0,none⟩=some (.int .i64 ((2 ^ K:Nat):Int)))(g:Tab w)(f:Nat->Nat)(F:f=λi=>nd (j+i) (q / 2 ^ i)):
  pG prog 162 #[.pointer (some ⟨G,0,none⟩),.pointer (some ⟨C,0,none⟩)] (λi v _ _=>v=#[.int .i64 ((f i:Nat):Int),.int .i64 ((f (i+1):Nat):Int)]) (K - j) (λk=>k=G\/k=C\/k=1) w:=by
 intro l J Jx W u ag af hJ ai Z h0;have c1:=u.cell B (.inl rfl);have c2:=u.cell h2 (.inr (.inl rfl));have m:=g.held u (.inr (.inr rfl));have HJ:=Lib.hid hJ;have HY:=Lib.hid Z;obtain⟨I,w2,w3⟩:=way T hj M;have HP:Hid (∀ i W,i<K - j->Tab W->Calls prog 164 #[.int .i64 ((f i:Nat):Int)] W λe w'=>e=.returned (.int .i64 ((f (i+1):Nat):Int))/\W=w'):=λi W s m=>by
  have B:=Ec (j+i) (q / 2 ^ i) W (by omega) (xB T (kR M (by omega))) m;rw[<-qm] at B;rw[F];exact B
 have HR:Hid (∀ W,Calls prog 163 #[.int .i64 ((2 ^ K:Nat):Int)] W λe w'=>e=.returned (.int .i64 (((2 ^ K:Nat):Int) - 1))/\W=w'):=λW=>Ed _ W (by have:=lR T;omega)
 have y:nd j q=f 0:=by rw[F];simp
 have x:∀ i,nd (j+i) (q / 2 ^ i)=f i:=λi=>by rw[F]
 simp only[x] at I w2;have W1:=Lib.hid (λi s=>(I i s).2.2);have W2:=Lib.hid w2;have ah:K - j<=10:=by omega
 rw[y] at c1;have HH:=Lib.hid u;generalize ((2 ^ K:Nat):Int)=N at *;clear hJ Z I w2 w3 F y x B h2 g u M;refine(callsIn_wide (n:=5)).1 ?_;refine callsIn_of_wp func162 rfl trivial ?_ rfl;simp only[ntmps162,Ka,Kj,Kb,Jo,Jt,Nat.reduceAdd,Nat.reduceSub,JX,JY,Kg,JR,Kc];gi_wp2
 gi_loopw [4] (λp wr=>∃ (i:Nat) (Y:Nat->Prop),i<=K - j/\p=.int .i64 ((f i:Nat):Int)/\wr.cell? ⟨C,0,none⟩=some (.int .i64 N)/\Tab wr/\aT (λk=>k=G\/k=C\/k=1) w wr/\J i Y wr/\(∀ k,Y k->W.heap.size<=k/\k<wr.heap.size)/\W.heap.size<=wr.heap.size) (λp _=>30 - lev (intOf p).toNat)
 case atStart=>exact⟨0,_,by omega,rfl,c2,m,HH.out,h0,λ_ h=>h.elim,Ja _⟩
 case round=>
  clear c1 c2 m h0;obtain⟨i,Y,s,rfl,Q,m,t,r,b,ab⟩:=hrel;have ad:prog.follows .mixedOrders=true:=by kernel_rfl
  have ae:prog.follows .lateStores=true:=by kernel_rfl
  have a:=W2.out i s;by_cases d:i<K - j
  ·have o:¬((f i:Nat):Int)=N - 1:=λh=>by have:=a.1 h;omega
   have R:(((f i:Nat):Int) != N - 1)=true:=KX.2 o;obtain⟨fn,tmps,H,aa,X,S⟩:=HY.out i Y wr #[.int .i64 ((f i:Nat):Int),.int .i64 ((f (i+1):Nat):Int)] 4 d r b t rfl;have U:=Lib.hid (Jb (W1.out i s) (W1.out (i+1) (by omega)));have D:=Lib.hid m;clear a o;gi_wp2_with (first|(refine⟨trivial,?_⟩;gi_at_call 163;refine(callsIn_wide.2 (HR.out _)).mono ?_;rintro _ _ ⟨rfl,rfl⟩)|(refine⟨trivial,?_⟩;gi_at_call 164;refine(callsIn_wide.2 (HP.out i _ d D.out)).mono ?_;rintro _ _ ⟨rfl,rfl⟩))
   refine S.mono ?_;rintro e w2 ⟨c,(⟨rfl,O⟩|⟨rfl,L⟩)⟩
   ·have P:=c.cell Q (.inr (.inr (.inl rfl)))
    have A:=D.out.held c (.inr (.inr (.inr rfl)));have E:=Lib.hid A;have V:=Lib.hid (t.trans (c.mono (λ_ h=>.inr h)));clear X S A;gi_wp2_with (refine⟨trivial,?_⟩;gi_at_call 164;refine(callsIn_wide.2 (HP.out i _ d E.out)).mono ?_;rintro _ _ ⟨rfl,rfl⟩)
    go_roundw
    case rel=>exact⟨i+1,Y,by omega,rfl,P,E.out,V.out,O,λk h=>⟨(b k h).1,Jh (b k h).2 c.size⟩,by have:=c.size;omega⟩
    case measure=>have:=U.out;simp[intOf];omega
   ·clear X S
    gi_wp2
    refine bodyPost_ret (results_none rfl _ _ _) rfl ?_;exact⟨⟨_,rfl⟩,Y,λk h=>⟨(b k h).1,Jh (b k h).2 c.size⟩,.inr ⟨i,d,L⟩⟩
  ·obtain rfl:i=K - j:=by omega
   have z:((f (K - j):Nat):Int)=N - 1:=a.2 rfl;have R:(((f (K - j):Nat):Int) != N - 1)=false:=by rw[z];simp
   clear z a;gi_wp2_with (refine⟨trivial,?_⟩;gi_at_call 163;refine(callsIn_wide.2 (HR.out _)).mono ?_;rintro _ _ ⟨rfl,rfl⟩)
   go_end0
   exact⟨⟨_,rfl⟩,Y,b,.inl r⟩
theorem so (A:World):Kp A A.drew:=Kp.drew (a:=A) (b:=A) (Kp.refl A)
def Apt (Z:Nat->Prop)(v:Value):Prop:=∀ g,v.ownBlock=some g->¬Z g
theorem sr {f:World}{b k:Nat}{xs:List Value}(h:A.ownsRow b e 1 v k xs)(i:am Y A f)(j:Apt Y v):f.ownsRow b e 1 v k xs:=by
 refine⟨h.1,?_⟩;rcases h.2 with l|⟨g,c,a,rfl,m,d,rest⟩
 ·exact .inl l
 ·exact .inr ⟨g,c,a,rfl,m,(i.block g (IX.1 d).1 (j g rfl)).trans d,rest⟩
structure eH (tS tE:TypeId)(w0:World)(R:Nat->Prop)(L:List Nat)(Y:Nat->Prop)(A:World)(v:Value):Prop where
 box:Boxed A w0.heap.size tS v
 own:ON tE A w0.heap.size v L
 apt:Apt (λk=>Y k\/R k) v
 kp:Kp w0 A
theorem eH.minds {o p:TypeId}(r:w0.heap.size<n):dO n (λY A=>∃ v,eH o p w0 R L Y A v):=by
 rintro Y s A t ⟨v,m,l,e,j⟩ f b d;have c:¬Y w0.heap.size:=λh=>by have:=f _ h;omega
 refine⟨v,(b.block _ m.lt c).trans m,sr l b (λg d h=>e g d (.inl h)),λg a h=>?_,Below.trans j (b.below j.size (λk q=>by have:=f k q;omega))⟩;rcases h with h|h
 ·rcases d g h with i|i
  ·exact e g a (.inl i)
  ·have:=(JP l g a).2;omega
 ·exact e g a (.inr h)
theorem eH.next {j i:TypeId}(l:j≠i){x:Nat}{a:World}{c:Value}{d:Obj}
  (h:eH j i w0 R L Y A v) (z:w0.heap.size<A.heap.size) (f:∀ k,Y k\/R k->k≠w0.heap.size/\k<A.heap.size)
  (w:ON i a w0.heap.size c (L++[x])) (r:(A.alloc d).grownBy a v.ownBlock) (m:c.ownBlock=v.ownBlock\/c.ownBlock=some (A.alloc d).heap.size):
  a.cell? ⟨w0.heap.size,0,none⟩=some v/\a.frozen? ⟨w0.heap.size,0,none⟩=false/\eH j i w0 R (L++[x]) Y (a.setCell ⟨w0.heap.size,0,none⟩ c) c/\aT (λk=>Y k\/R k) A (a.setCell ⟨w0.heap.size,0,none⟩ c):=by
 obtain⟨o,u,t,_,n⟩:=Boxed.appended h.box l h.own (by omega) (Ja _) w r;refine⟨o.cell,o.frozen,⟨u,t,λg b p=>?_,Below.trans h.kp (n.mono (Ja _))⟩,⟨?_,λk y q=>?_⟩⟩
 ·rcases m with e|e
  ·exact h.apt g (e▸b) p
  ·have s:=f g p
   rw[e] at b;simp at b;omega
 ·have:=n.size;omega
 ·have s:=f k q
  refine(Below.heap_setCell a _ _ k (λe=>s.1 (by simpa using e))).trans ((r.block k (by simp;omega) (λe=>?_)).trans (Below.heap_alloc A _ k y));exact h.apt k e.symm q
theorem bm.two {c:Array Oper}{g:Region.Mode}{S:World->Prop}(i j:Nat){u:Oper}(v:c[i]?=some o)(t:c[j]?=some u)(m:Region.ready g c b=[i,j])
  (y:∀ K:Act->World->Prop,(∀ e w',S w'->bm F n P g c Q S d (b.setIfInBounds i true) e w'->K e w')->if Region.wanted o (yielded c a.tmps)=true then Oper.wpIn F n P o a w K Q else (∀ f,o.about P w a.eval=some f->F.fn f)/\K (a.put o.dst undef) w)
  (x:∀ K:Act->World->Prop,(∀ e w',S w'->bm F n P g c Q S d (b.setIfInBounds j true) e w'->K e w')->if Region.wanted u (yielded c a.tmps)=true then Oper.wpIn F n P u a w K Q else (∀ f,u.about P w a.eval=some f->F.fn f)/\K (a.put u.dst undef) w):
  bm F n P g c Q S (d+1) b a w:=by
 refine⟨λz=>(by rw[z] at m;cases m),λk s=>?_⟩;rw[m] at s;have p:k=i\/k=j:=by simpa using s
 rcases p with rfl|rfl
 ·exact wpOpIn_step v (λr q=>y r (λe w' l h=>q e w' ⟨l,h⟩))
 ·exact wpOpIn_step t (λr q=>x r (λe w' l h=>q e w' ⟨l,h⟩))
theorem Eh {d:TypeId}(S:bK P d e)(l:d≠e){D:Act->World->Prop}(s y:Operand)(x:Nat)
  (m:o.op=.call { callee:=.builtin .append,args:=#[s,y],argTypes:=#[d,d] }) (M:a.eval s=v) (q:eH d e w0 R L Y A v) (K:a.eval y=.slice (some ⟨A.heap.size,0,none⟩) 1 1) (X:L.length<=1000)
  (t:∀ k,Y k\/R k->k≠w0.heap.size/\k<A.heap.size)
  (T:∀ g c h,h.cell? ⟨w0.heap.size,0,none⟩=some v->h.frozen? ⟨w0.heap.size,0,none⟩=false->eH d e w0 R (L++[x]) Y (h.setCell ⟨w0.heap.size,0,none⟩ (.slice (some ⟨g,0,none⟩) (L.length+1) c)) (.slice (some ⟨g,0,none⟩) (L.length+1) c) ->
   aT (λk=>Y k\/R k) A (h.setCell ⟨w0.heap.size,0,none⟩ (.slice (some ⟨g,0,none⟩) (L.length+1) c))->D (a.put o.dst (.slice (some ⟨g,0,none⟩) (L.length+1) c)) h):
  Oper.wpIn F n P o a (A.alloc (.cells #[iv x] e)) D Q:=by
 obtain⟨i,z,O,J,f,r,j⟩:=S.hi;have w:w0.heap.size<A.heap.size:=q.box.lt;have b:=ON.kp q.own ((Kp.refl A).alloc (.cells #[iv x] e));unfold ON at b;rw[JI] at b;obtain⟨W,h,N,C,V,_,U⟩:=run_append_own_at (P:=P) _ w0.heap.size d o.type e i z 1 i.bytes S.ht O J f rfl j (by decide) v L.length (L.map iv) b ⟨A.heap.size,0,none⟩ 1 1 [iv x] rfl (cell_one_new A _ _) (by intro u B;simp at B;subst B;rfl) (by unfold maxLen;omega) (by have:=La (show L.length+1<=1001 by omega) r;omega) (by simp;omega);obtain⟨g,c,rfl⟩:=ownsRow_succ C;obtain⟨I,H,G,E⟩:=eH.next l q w t (x:=x) (by unfold ON;rw[Kx,Jc,JI];exact C) V U;unfold Oper.wpIn;refine⟨by simp[Oper.about,m,resolve,Target.leads,Sem.run_pure],?_⟩;rw[Oper.semAt_plain F _ _ (by rw[m];intro c p;cases p)];simp[execOp,m,resolve,invoke,builtin,M,K,N,Result.andThen];exact T _ _ _ I H G E
theorem eH.on {a b:TypeId}{c:World}(h:eH a b w0 R L Y A v)(k:Kp A c):eH a b w0 R L Y c v:=
 ⟨(k.block _ h.box.lt).trans h.box,ON.kp h.own k,h.apt,Below.trans h.kp (k.mono h.kp.size)⟩
theorem su {b:TypeId}(S:bK P b e)(f:b≠e){i:Act->World->Prop}(s y:Operand)(x:Nat)
  (m:o.op=.call { callee:=.builtin .append,args:=#[s,y],argTypes:=#[b,b] }) (p:eH b e w0 R L Y A v) (q:L.length<=1000)
  (h:∀ k,Y k\/R k->k≠w0.heap.size/\k<A.heap.size) (l:a.eval s=v) (j:a.eval y=.slice (some ⟨A.heap.size,0,none⟩) 1 1)
  (r:∀ g c d,d.cell? ⟨w0.heap.size,0,none⟩=some v->d.frozen? ⟨w0.heap.size,0,none⟩=false->eH b e w0 R (L++[x]) Y (d.setCell ⟨w0.heap.size,0,none⟩ (.slice (some ⟨g,0,none⟩) (L.length+1) c)) (.slice (some ⟨g,0,none⟩) (L.length+1) c) ->
   aT (λk=>Y k\/R k) A.drew (d.setCell ⟨w0.heap.size,0,none⟩ (.slice (some ⟨g,0,none⟩) (L.length+1) c))->i (a.put o.dst (.slice (some ⟨g,0,none⟩) (L.length+1) c)) d):
  Oper.wpIn F n P o a (A.alloc (.cells #[.int .i64 (x:Int)] e)).drew i Q:=
 Eh S f s y x m l (p.on (Kp.refl A).drew) j q h r
theorem pH:34≠3:=by decide
theorem xD (K j q:Nat)(x n:Int)(W:World)(a:x=((nd j q:Nat):Int))(c:n=((2 ^ K:Nat):Int))(f:K<=10)(d:j<=K)(b:q<2 ^ (K - j))(e:Tab W):
  pG prog 162 #[.pointer (some ⟨W.heap.size,0,none⟩),.pointer (some ⟨W.heap.size+1,0,none⟩)] (λi v _ _=>v=#[.int .i64 ((nd (j+i) (q / 2 ^ i):Nat):Int),.int .i64 ((nd (j+(i+1)) (q / 2 ^ (i+1)):Nat):Int)]) (K - j) (λk=>k=W.heap.size\/k=W.heap.size+1\/k=1) ((W.alloc (.cells #[.int .i64 x] 3)).alloc (.cells #[.int .i64 n] 3)):=by
 subst a c;refine Eg K j q W.heap.size (W.heap.size+1) _ f d b ?_ ?_ ((e.kp ((Kp.refl _).alloc _)).kp ((Kp.refl _).alloc _)) _ rfl
 ·exact((Boxed.new W 3 (.int .i64 ((nd j q:Nat):Int))).alloc _).cell
 ·have:=(Boxed.new (W.alloc (.cells #[.int .i64 ((nd j q:Nat):Int)] 3)) 3 (.int .i64 ((2 ^ K:Nat):Int))).cell
  rwa [Jn] at this
theorem xE (K j q:Nat)(w:World)(Q:K<=10)(hj:j<=K)(hq:q<2 ^ (K - j))(hT:Tab w):
  Calls prog 92 #[.int .i64 ((nd j q:Nat):Int),.int .i64 ((2 ^ K:Nat):Int)] w λe w'=>(∃ v,e=.returned (.tuple #[v,.int .i64 0])/\ON 3 w' w.heap.size v (aK K j q))/\Kp w w':=by
 have S:=fX;obtain⟨i0,z0,ag,af,ae,ad,ab⟩:=S.hi;have I:=(it ((nd j q:Nat):Int) ((2 ^ K:Nat):Int)).2 ⟨K,j,q,Q,rfl,rfl,hj,hq⟩;have HN:=Lib.hid (oC ((nd j q:Nat):Int) ((2 ^ K:Nat):Int));rw[I] at HN;obtain⟨X,hX⟩:∃ X:Int,X=((nd j q:Nat):Int):=⟨_,rfl⟩;obtain⟨N,hN⟩:∃ N:Int,N=((2 ^ K:Nat):Int):=⟨_,rfl⟩;rw[<-hX,<-hN] at HN ⊢;have HU:=Lib.hid (λW an=>xD K j q X N W hX hN Q hj hq an);have U:Hid (∀ i,i<K - j->(aK K j q).take (i+1)=(aK K j q).take i++[nd (j+(i+1)) (q / 2 ^ (i+1))]):=λi Z=>by
  rw[show j+(i+1)=j+1+i by omega];exact tf K j q i Z
 have HE:Hid ((aK K j q).take (K - j)=aK K j q):=JG (by rw[mg];omega);have ar:Hid (∀ i,((aK K j q).take i).length<=1000):=λi=>by rw[Jv,mg];omega
 obtain⟨f,hf⟩:∃ f:Nat->Nat,f=λi=>nd (j+i) (q / 2 ^ i):=⟨_,rfl⟩
 have J:∀ i,nd (j+i) (q / 2 ^ i)=f i:=λi=>by rw[hf]
 simp only[J] at HU U;generalize aK K j q=PL at *;generalize K - j=D at *;clear hX hN I hq hj Q hf J;refine(callsIn_wide (n:=4)).1 ?_;refine callsIn_of_wp_marks func92 rfl trivial ?_ rfl;refine wpIn_wide.2 ?_;simp only[ntmps92,Ka,Kb,Jt,Jo,Nat.reduceAdd,Nat.reduceSub,JX,JY,Kg,JR,Kc];go_wp2_with fail;refine(HN.out _).mono ?_;rintro _ _ ⟨rfl,rfl⟩;go_wp2_with fail;obtain⟨a,d⟩:∃ a,w.alloc (.cells #[.slice none 0 0] 34)=a:=⟨_,rfl⟩;rw[d];have s:Boxed a w.heap.size 34 (.slice none 0 0):=by rw[<-d];exact Boxed.new _ _ _
 have k1:Kp w a:=by rw[<-d];exact(Kp.refl _).alloc _
 have G:a.heap.size=w.heap.size+1:=by rw[<-d];simp
 refine(xC _ _ _).mono ?_;rintro _ T ⟨rfl,m⟩;have k2:Kp a T:=by rw[<-m];exact((Kp.refl _).alloc _).alloc _
 have F:T.heap.size=a.heap.size+2:=by rw[<-m];simp
 have aj:Boxed T w.heap.size 34 (.slice none 0 0):=(k2.block _ s.lt).trans s;have z:=HU.out a (hT.kp k1);rw[m] at z;have aa:=Below.trans k1 (k2.mono (by omega));have aw:=hT.lt;have p:=Lib.hid z;have V:=Lib.hid (Jb G F);clear d m s HU k1 k2 z HN G F;go_wp2_with fail;have hE:∀ args w,(callFunc 162 args).run prog w=.ok (.enter 162 args) w:=enters_of func162 (by kernel_rfl) rfl;obtain⟨R,hR⟩:∃ R:Nat->Prop,(λk=>k=a.heap.size\/k=a.heap.size+1\/k=1)=R:=⟨_,rfl⟩;have O:∀ k,R k->w.heap.size<k/\k<T.heap.size\/k<w.heap.size:=λk r=>by have:=V.out;rw[<-hR] at r;rcases r with rfl|rfl|rfl <;> omega
 rw[hR] at p;clear hR;refine sn (gf:=162) (lb:=#[.pointer (some ⟨a.heap.size,0,none⟩),.pointer (some ⟨a.heap.size+1,0,none⟩)]) rfl hE (Kp.refl T) (λk r=>by have:=O k r;have:=V.out;omega) p.out ?sz
   (λi Y A=>∃ v,eH 34 3 w R (PL.take i) Y A v) (λc i Y A=>False) ?mI ?mIx ?TT ?h0
   (λv a' _=>∃ x y:Int,v=#[.int .i64 x,.int .i64 y]/\a'={ tmps:=#[.int .i64 X,.int .i64 N,undef,undef,.slice none 0 0,.int .i64 0,.pointer (some ⟨w.heap.size,0,none⟩),undef,.int .i64 y,.int .i64 X,.int .i64 N,.bool true,.bool false,.int .i64 X,.int .i64 N,.func (.func 162) #[] #[.pointer (some ⟨a.heap.size,0,none⟩),.pointer (some ⟨a.heap.size+1,0,none⟩)],.int .i64 x,.int .i64 y,undef,undef,undef,undef,undef],defers:=[] })
   (λ_ _ _ _ _ _ h _ _=>h) ?assign ?body ?done ?stop
 case h0=>exact⟨_,aj,by rw[Lq];exact ON.nil _ _ _,(λg hg=>by cases hg),aa⟩
 case sz=>intro i v Y A h;rw[h];rfl
 case mI=>intro i;exact eH.minds (by have:=V.out;omega)
 case mIx=>intro c i Y Y' A A' h;exact h.elim
 case TT=>intro i v Yi Y A A' l o h _ _ _ _ _;exact h
 case assign=>
  intro l i Y Yi v A Kk hI t Q;subst t;gi_wp2
  exact Q _ _ (Kp.refl _) ⟨_,_,rfl,rfl⟩
 case body=>
  rintro l i Y v a' A Z ⟨u,b⟩ B P t ⟨x,y,C,rfl⟩;subst t;simp only[Array.mk.injEq,List.cons.injEq,Value.int.injEq,true_and,and_true] at C;obtain⟨rfl,rfl⟩:=C;have ai:=b.box.cell;have av:((PL.take i).map iv).length<=1000:=by rw[JI];exact ar.out i
  have ap:w.heap.size<A.heap.size:=b.box.lt;have L:∀ k,Y k\/R k->k≠w.heap.size/\k<A.heap.size:=λk r=>by
   have:=V.out;have h3:=P.size;rcases r with h|h
   ·have:=B k h;omega
   ·have:=O k h;omega
  have aq:=Lib.hid (U.out i Z);have HY:=Lib.hid L;have HC:=Lib.hid b;clear L B P b;gi_wp2_with (gi_at_builtin;refine wpListIn_append_own_at _ rfl _ _ 34 rfl w.heap.size 3 i0 z0 1 i0.bytes S.ht ag af ae rfl ab (by decide) u _ ((PL.take i).map iv) rfl (ON.kp HC.out.own ((Kp.refl _).alloc _)) ⟨A.heap.size,0,none⟩ 1 1 [iv (f (i+1))] rfl rfl (cell_one_new A _ _) (by intro u hu;simp at hu;subst hu;rfl) (by unfold maxLen;omega) (by have:=La (show((PL.take i).map iv).length+1<=1001 by omega) ad;omega) (by simp;omega) ?_;intro v' w1 H ah _ ak;obtain⟨gv,cv,rfl⟩:=ownsRow_succ H;obtain⟨cx,fz,cl,hd⟩:=eH.next pH HC.out ap HY.out (x:=f (i+1)) (by unfold ON;rw[Kx,Jc];exact H) ah ak)
  simp only[JI,Jv] at cl hd;rw[aq.out];exact⟨hd,_,cl⟩
 case done=>
  rintro D' Y W hD M al ⟨u,b⟩ hd;rename_i Qp Kk ao
  rw[HE.out] at b;obtain⟨au,nu,cu,rfl⟩:=(ON.rn b.own).sl;have c1:=b.box.cell;simp only[Exit.inBlock,Exit.then];refine ao _ _ ?_;go_wp2;have E:am (λk=>k=D') W (W.putObj D' (.deferred none)):=(am.refl _ W).putObj _ _ (.inr rfl);refine⟨by simp,.inl ⟨_,_,rfl,run_takeDeferred hd,?_⟩⟩;refine⟨_,results_tmp2 rfl _ _ _,⟨_,rfl,?_⟩,Below.trans b.kp (E.below b.kp.size (λk r=>by have:=V.out;omega))⟩;exact(sr b.own E (λg hg e=>by subst e;exact b.apt g hg (.inl M)))
 case stop=>intro D' c i Y W hD M al Z h;exact h.elim
theorem FX (K j q:Nat)(w:World)(a:K<=10)(hj:j<=K)(hq:q<2 ^ (K - j))(hT:Tab w):
  Calls prog 88 #[.int .i64 ((nd j q:Nat):Int),.int .i64 ((2 ^ K:Nat):Int)] w λe w'=>(∃ v,e=.returned (.tuple #[v,.int .i64 0])/\ON 3 w' w.heap.size v (cQ K j q))/\Kp w w':=by
 have S:=fX;obtain⟨i0,z0,az,ax,aw,av,ar⟩:=S.hi;have U:=(it ((nd j q:Nat):Int) ((2 ^ K:Nat):Int)).2 ⟨K,j,q,a,rfl,rfl,hj,hq⟩;have HN:=Lib.hid (oC ((nd j q:Nat):Int) ((2 ^ K:Nat):Int));rw[U] at HN;obtain⟨X,hX⟩:∃ X:Int,X=((nd j q:Nat):Int):=⟨_,rfl⟩;obtain⟨N,hN⟩:∃ N:Int,N=((2 ^ K:Nat):Int):=⟨_,rfl⟩;rw[<-hX,<-hN] at HN ⊢;have HU:=Lib.hid (λW ao=>xD K j q X N W hX hN a hj hq ao);have af:Hid (∀ i,i<K - j->(cQ K j q).take (i+1)=(cQ K j q).take i++[nd (j+i) (sq (q / 2 ^ i))]):=λi J=>tg K j q i J
 have ag:Hid (∀ i W,i<K - j->Calls prog 126 #[.int .i64 ((nd (j+i) (q / 2 ^ i):Nat):Int),.int .i64 ((nd (j+(i+1)) (q / 2 ^ (i+1)):Nat):Int)] W λe w'=>e=.returned (.int .i64 ((nd (j+i) (sq (q / 2 ^ i)):Nat):Int))/\W=w'):=λi W J=>by
  rw[qm];exact Ee (j+i) (q / 2 ^ i) W (by omega) (xB a (kR hq (by omega)))
 have HE:Hid ((cQ K j q).take (K - j)=cQ K j q):=JG (by rw[ox];omega);have t:Hid (∀ i,((cQ K j q).take i).length<=1000):=λi=>by rw[Jv,ox];omega
 obtain⟨f,hf⟩:∃ f:Nat->Nat,f=λi=>nd (j+i) (q / 2 ^ i):=⟨_,rfl⟩
 have Z:∀ i,nd (j+i) (q / 2 ^ i)=f i:=λi=>by rw[hf]
 obtain⟨g,L⟩:∃ g:Nat->Nat,g=λi=>nd (j+i) (sq (q / 2 ^ i)):=⟨_,rfl⟩
 have V:∀ i,nd (j+i) (sq (q / 2 ^ i))=g i:=λi=>by rw[L]
 simp only[Z,V] at HU af ag;generalize cQ K j q=PL at *;generalize K - j=D at *;clear hX hN U hq hj a hf Z L V;refine(callsIn_wide (n:=4)).1 ?_;refine callsIn_of_wp_marks func88 rfl trivial ?_ rfl;refine wpIn_wide.2 ?_;simp only[ntmps88,Ka,Kb,Jt,Jo,Nat.reduceAdd,Nat.reduceSub,JX,JY,Kg,JR,Kc];go_wp2_with fail;refine(HN.out _).mono ?_;rintro _ _ ⟨rfl,rfl⟩;go_wp2_with fail;obtain⟨d,p⟩:∃ d,w.alloc (.cells #[.slice none 0 0] 34)=d:=⟨_,rfl⟩;rw[p];have F:Boxed d w.heap.size 34 (.slice none 0 0):=by rw[<-p];exact Boxed.new _ _ _
 have k1:Kp w d:=by rw[<-p];exact(Kp.refl _).alloc _
 have T:d.heap.size=w.heap.size+1:=by rw[<-p];simp
 refine(xC _ _ _).mono ?_;rintro _ W2 ⟨rfl,s⟩;have k2:Kp d W2:=by rw[<-s];exact((Kp.refl _).alloc _).alloc _
 have Q:W2.heap.size=d.heap.size+2:=by rw[<-s];simp
 have ak:Boxed W2 w.heap.size 34 (.slice none 0 0):=(k2.block _ F.lt).trans F;have H:=HU.out d (hT.kp k1);rw[s] at H;have ai:=Below.trans k1 (k2.mono (by omega));have ay:=hT.lt;have B:=Lib.hid H;have HS:=Lib.hid (Jb T Q);clear p s F HU k1 k2 H HN T Q;go_wp2_with fail;have hE:∀ args w,(callFunc 162 args).run prog w=.ok (.enter 162 args) w:=enters_of func162 (by kernel_rfl) rfl;obtain⟨R,hR⟩:∃ R:Nat->Prop,(λk=>k=d.heap.size\/k=d.heap.size+1\/k=1)=R:=⟨_,rfl⟩;have ad:∀ k,R k->w.heap.size<k/\k<W2.heap.size\/k<w.heap.size:=λk C=>by have:=HS.out;rw[<-hR] at C;rcases C with rfl|rfl|rfl <;> omega
 rw[hR] at B;clear hR;refine sn (gf:=162) (lb:=#[.pointer (some ⟨d.heap.size,0,none⟩),.pointer (some ⟨d.heap.size+1,0,none⟩)]) rfl hE (Kp.refl W2) (λk C=>by have:=ad k C;have:=HS.out;omega) B.out ?sz
   (λi Y A=>∃ v,eH 34 3 w R (PL.take i) Y A v) (λc i Y A=>False) ?mI ?mIx ?TT ?h0
   (λv a' _=>∃ x y:Int,v=#[.int .i64 x,.int .i64 y]/\a'={ tmps:=#[.int .i64 X,.int .i64 N,undef,undef,.slice none 0 0,.int .i64 0,.pointer (some ⟨w.heap.size,0,none⟩),.int .i64 x,.int .i64 y,.int .i64 X,.int .i64 N,.bool true,.bool false,.int .i64 X,.int .i64 N,.func (.func 162) #[] #[.pointer (some ⟨d.heap.size,0,none⟩),.pointer (some ⟨d.heap.size+1,0,none⟩)],.int .i64 x,.int .i64 y,undef,undef,undef,undef,undef,undef,undef],defers:=[] })
   (λ_ _ _ _ _ _ h _ _=>h) ?assign ?body ?done ?stop
 case h0=>exact⟨_,ak,by rw[Lq];exact ON.nil _ _ _,(λg L=>by cases L),ai⟩
 case sz=>intro i v Y A h;rw[h];rfl
 case mI=>intro i;exact eH.minds (by have:=HS.out;omega)
 case mIx=>intro c i Y Y' A A' h;exact h.elim
 case TT=>intro i v Yi Y A A' l o h _ _ _ _ _;exact h
 case assign=>
  intro l i Y Yi v A Kk hI G a;subst G;gi_wp2
  exact a _ _ (Kp.refl _) ⟨_,_,rfl,rfl⟩
 case body=>
  rintro l i Y v a' A J ⟨u,m⟩ M ae G ⟨x,y,O,rfl⟩;subst G;simp only[Array.mk.injEq,List.cons.injEq,Value.int.injEq,true_and,and_true] at O;obtain⟨rfl,rfl⟩:=O;have E:=m.box.cell;have aq:((PL.take i).map iv).length<=1000:=by rw[JI];exact t.out i
  have aA:w.heap.size<A.heap.size:=m.box.lt;have aa:∀ k,Y k\/R k->k≠w.heap.size/\k<A.heap.size:=λk C=>by
   have:=HS.out;have h3:=ae.size;rcases C with h|h
   ·have:=M k h;omega
   ·have:=ad k h;omega
  have I:=Lib.hid (af.out i J);have HY:=Lib.hid aa;have HC:=Lib.hid m;clear aa M ae m;have aj:prog.follows .mixedOrders=true:=by kernel_rfl
  have ah:=Lib.hid (λW=>ag.out i W J);gi_wp2
  have cd:A.drew.cell? ⟨w.heap.size,0,none⟩=some u:=E;refine uW (S:=λ_=>True) aj ?_;refine bm.take 1 (.int .i64 ((f i:Nat):Int)) rfl (by kernel_rfl) (by kernel_rfl) (by kernel_rfl) (by kernel_rfl) (λ_ _ _ h=>h) trivial ⟨λc e=>(by cases e),λ_=>rfl,.inl ⟨rfl,λW' an=>?_⟩⟩ ?_
  ·go_simp
  refine bm.take 2 (.int .i64 ((f (i+1):Nat):Int)) rfl (by kernel_rfl) (by kernel_rfl) (by kernel_rfl) (by kernel_rfl) (λ_ _ _ h=>h) trivial ⟨λc e=>(by cases e),λ_=>rfl,.inl ⟨rfl,λW' an=>?_⟩⟩ ?_
  ·go_simp
  go_simp;refine bm.two 0 3 rfl rfl (by kernel_rfl) (λb a=>?_) (λb a=>?_)
  ·go_simp
   refine a _ _ trivial ?_;clear a b;refine bm.one 3 rfl (by kernel_rfl) (λb a=>?_);go_simp;gi_wp2_with (refine⟨trivial,?_⟩;gi_at_call 126;refine(CallsIn.inRound l (callsIn_wide.2 (ah.out _))).mono ?_;rintro _ _ ⟨rfl,rfl⟩)
   refine a _ _ trivial ?_;clear a b;refine bm.one 4 rfl (by kernel_rfl) (λb a=>?_);go_simp;refine a _ _ trivial ?_;clear a b;refine bm.one 5 rfl (by kernel_rfl) (λb a=>?_);rw[if_pos (by rfl)];refine su S pH _ _ (g i) rfl HC.out (t.out i) HY.out rfl rfl ?_;intro gv cv w1 cx fz z r;refine a _ _ trivial ?_;clear a b;refine bm.one 6 rfl (by kernel_rfl) (λb a=>?_);go_simp;refine a _ _ trivial ?_;clear a b;refine bm.done (by kernel_rfl) ?_;simp only[Jv] at z r;refine⟨(aT.of_kp (so A)).trans r,.inl ⟨rfl,.slice (some ⟨gv,0,none⟩) (min i PL.length+1) cv,?_⟩⟩;rw[I.out];exact z
  ·go_simp
   gi_wp2_with (refine⟨trivial,?_⟩;gi_at_call 126;refine(CallsIn.inRound l (callsIn_wide.2 (ah.out _))).mono ?_;rintro _ _ ⟨rfl,rfl⟩)
   refine a _ _ trivial ?_;clear a b;refine bm.two 0 4 rfl rfl (by kernel_rfl) (λb a=>?_) (λb a=>?_)
   ·go_simp
    refine a _ _ trivial ?_;clear a b;refine bm.one 4 rfl (by kernel_rfl) (λb a=>?_);go_simp;refine a _ _ trivial ?_;clear a b;refine bm.one 5 rfl (by kernel_rfl) (λb a=>?_);rw[if_pos (by rfl)];refine su S pH _ _ (g i) rfl HC.out (t.out i) HY.out rfl rfl ?_;intro gv cv w1 cx fz z r;refine a _ _ trivial ?_;clear a b;refine bm.one 6 rfl (by kernel_rfl) (λb a=>?_);go_simp;refine a _ _ trivial ?_;clear a b;refine bm.done (by kernel_rfl) ?_;simp only[Jv] at z r;refine⟨(aT.of_kp (so A)).trans r,.inl ⟨rfl,.slice (some ⟨gv,0,none⟩) (min i PL.length+1) cv,?_⟩⟩;rw[I.out];exact z
   ·go_simp
    refine a _ _ trivial ?_;clear a b;refine bm.one 0 rfl (by kernel_rfl) (λb a=>?_);go_simp;refine a _ _ trivial ?_;clear a b;refine bm.one 5 rfl (by kernel_rfl) (λb a=>?_);rw[if_pos (by rfl)];refine su S pH _ _ (g i) rfl HC.out (t.out i) HY.out rfl rfl ?_;intro gv cv w1 cx fz z r;refine a _ _ trivial ?_;clear a b;refine bm.one 6 rfl (by kernel_rfl) (λb a=>?_);go_simp;refine a _ _ trivial ?_;clear a b;refine bm.done (by kernel_rfl) ?_;simp only[Jv] at z r;refine⟨(aT.of_kp (so A)).trans r,.inl ⟨rfl,.slice (some ⟨gv,0,none⟩) (min i PL.length+1) cv,?_⟩⟩;rw[I.out];exact z
 case done=>
  rintro D' Y W hD ab al ⟨u,m⟩ r;rename_i Qp Kk ap
  rw[HE.out] at m;obtain⟨au,nu,cu,rfl⟩:=(ON.rn m.own).sl;have c1:=m.box.cell;simp only[Exit.inBlock,Exit.then];refine ap _ _ ?_;go_wp2;have P:am (λk=>k=D') W (W.putObj D' (.deferred none)):=(am.refl _ W).putObj _ _ (.inr rfl);refine⟨by simp,.inl ⟨_,_,rfl,run_takeDeferred r,?_⟩⟩;refine⟨_,results_tmp2 rfl _ _ _,⟨_,rfl,?_⟩,Below.trans m.kp (P.below m.kp.size (λk C=>by have:=HS.out;omega))⟩;exact sr m.own P (λg L e=>by subst e;exact m.apt g L (.inl ab))
 case stop=>intro D' c i Y W hD ab al J h;exact h.elim
