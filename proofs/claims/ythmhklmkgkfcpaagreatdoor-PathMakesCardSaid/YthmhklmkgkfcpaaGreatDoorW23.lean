import Derived.Test.YthmhklmkgkfcpaaGreatDoorW22
set_option linter.all false
set_option maxHeartbeats 8000000
set_option maxRecDepth 100000
namespace Go.Proofs.YthmhklmkgkfcpaaGreatDoor
open Go.Proofs.Tryz Go.RowKit
variable {N:Nat}{P:Program}{Q:Exit->Act->World->Prop}{a:Act}{b c v:Value}{f lb:List UInt8}{g:List Int}{o:Oper}{w:World}
theorem kt {c:Array Oper}{rest:List Oper}(k:o.guard=none)(u:o.dst=none)(e:TypeId)(x y:Operand)(t:o.op=.store e x y)
  (b f:Nat) (v:Value) (r:a.eval x=.pointer (some ⟨b,f,none⟩)) (q:a.eval y=v) (p:v.oneCell'=true) (m:w.there b f 1) (n:(P.info? e).map (·.size)=some 1)
  (h:∀ w',w'=w.setCells b f [v]->wpList P c Q rest a w'):wpList P c Q (o :: rest) a w:=by
 have A:v.cells=#[v]:=by cases v <;> first|rfl|cases p
 have:=run_storeCells_cells (P:=P) b f [v] 0 w (λj g=>by simpa using (m j (by simpa using g)).1) (λj g=>by simpa using (m j (by simpa using g)).2)
  (λz l=>by simp at l;subst l;exact p)
 have d:(storeVar e ⟨b,f,none⟩ v).run P w=.ok () (w.setCells b f [v]):=by
  cases hq:P.info? e with
  | none=>simp[hq] at n
  | some i=>
   have s:i.size=1:=by simpa [hq] using n
   simp only[Lr] at this;simp[storeVar,sizeOf,typeInfo,hq,A,s,this]
 refine wpList_plain k λ_ B=>?_
 unfold Oper.wp execOp;simp only[t,r,q,Instr.storeAt,Instr.sureAddr,Sem.run_bind,Sem.run_pure,Result.andThen_ok,d];refine B _ _ ?_;rw[u];exact h _ rfl
theorem wZ:(prog.info? 24).map (·.size)=some 1:=by kernel_rfl
theorem xg:(prog.info? 34).map (·.size)=some 1:=by kernel_rfl
theorem DQ {R:Nat->Value->Value->Value->Prop}(h:∀ i,i<N->∃ p u q,R i p u q):∃ P U Q:Nat->Value,∀ i,i<N->R i (P i) (U i) (Q i):=by
 have b:∀ i,∃ p u q,i<N->R i p u q:=λi=>by
  by_cases a:i<N
  ·obtain⟨p,u,q,c⟩:=h i a
   exact⟨p,u,q,λ_=>c⟩
  ·exact⟨undef,undef,undef,λd=>absurd d a⟩
 exact⟨λi=>(b i).choose,λi=>(b i).choose_spec.choose,λi=>(b i).choose_spec.choose_spec.choose,λi a=>(b i).choose_spec.choose_spec.choose_spec a⟩
theorem DS (t:List Nod)(i:Nat)(a:i<t.length):t.set i (ats t i)=t:=by
 rw[jS a];exact LI a
theorem xi {b:Array Oper}{rest:List Oper}(e:o.guard=none)(p:o.dst=none)(d:TypeId)(x y:Operand)(m:o.op=.store d x y)
  (g f:Nat) (cs:List Value) (k:a.eval x=.pointer (some ⟨g,f,none⟩)) (j:a.eval y=.agg cs.toArray) (i:cs.length=5) (c:∀ z∈cs,z.oneCell'=true) (l:w.there g f 5) (n:(P.info? d).map (·.size)=some 5)
  (h:∀ w',w'=w.setCells g f cs->wpList P b Q rest a w'):wpList P b Q (o :: rest) a w:=by
 refine wpList_store_mid e d x y m g f cs.toArray k j (by rw[Kb,i];exact l) (by rw[n,Kb,i]) (all_oneCell_toArray c) ?_;rw[p];exact h _ rfl
theorem NX.at {e m:TypeId}{B g c:Nat}{t:List Nod}{P U H:Nat->Value}{S:Nat->Prop}(h:NX e m w B (.slice (some ⟨g,0,none⟩) N c) t P U H S)(i:Nat)(d:i<t.length):NAt w g (i*5) (ats t i) (P i) (U i) (H i):=by
 obtain⟨us,k,n,f⟩:=h.row;have l:=h.len;subst l;refine⟨λj x b=>?_,h.ins i d⟩;have a:j<5:=(JH.1 b).1;rw[k.cellAt (i*5+j) (by omega),f i d j a];exact b
theorem eV {f:Func}{p q:Tmp}{a:TypeId}(h:f.results=#[.cell p a,.tmp q])(tmps:Array Value)(w:World)(g:Nat)(t:TypeId)(cs:Array Value)(e:Nat × Nat)(d:TypeDesc)(v:Value)
  (k:tmps.getD p undef=.pointer (some ⟨g,0,none⟩)) (m:w.heap[g]?=some (.cells cs t e))
  (i:P.underlying a=some d) (n:(match d with|.struct _|.array _ _=>true|_=>false)=true) (l:(P.info? a).map (·.size)=some cs.size) (j:tmps.getD q undef=v):
  (results f tmps).run P w=.ok (.tuple #[.agg cs,v]) w:=by
 have c:tmps[p]?.getD undef=.pointer (some ⟨g,0,none⟩):=by simpa using k
 have b:tmps[q]?.getD undef=v:=by simpa using j
 simp[results,h,c,b,asAddr,run_loadVar_row w g t a cs e d m i n l]
theorem fe {b:Array Oper}{rest:List Oper}(e:o.guard=none)(q:o.dst=none)(d:TypeId)(x y:Operand)(m:o.op=.store d x y)
  (g:Nat) (T:TypeId) (cs vs:Array Value) (l:a.eval x=.pointer (some ⟨g,0,none⟩)) (j:a.eval y=.agg vs) (i:Bx w g T cs) (f:vs.size=cs.size) (c:∀ z∈vs.toList,z.oneCell'=true) (n:(P.info? d).map (·.size)=some vs.size)
  (h:∀ w',Bx w' g T vs->w.grownBy w' (some g)->(∀ w0,Kp w0 w->w0.heap.size<=g->Kp w0 w')->wpList P b Q rest a w'):wpList P b Q (o :: rest) a w:=by
 refine wpList_store_mid e d x y m g 0 vs l j (by rw[f];exact i.there) n (all_oneCell_toArray (cs:=vs.toList) c) ?_;rw[q];exact h _ (i.fill vs f) (fF w g 0 vs.toList 0) λw0 k p=>k.setCells p vs.toList 0
theorem sS {n:Int}(h:0<=n/\n<=65535):fs n 2=be 2 n.toNat:=by
 unfold fs;rw[if_pos]
 ·rfl
 ·unfold eE
  refine⟨by omega,by omega,by omega,?_⟩;show n<65536
  omega
theorem RL.row2 (w:World)(e:TypeId){a:Value}{c:List UInt8}(g:Rd w a c)(f:Rd w b lb):RL (w.alloc (.cells #[a,b] e)) (.slice (some ⟨w.heap.size,0,none⟩) 2 2) [c,lb]:=
 RL.cons (us:=[b]) (ls:=[lb]) (Ku w #[a,b] 2 (Ja _) (by unfold maxLen;omega) rfl) (g.kp ((Kp.refl _).alloc _)) rfl (λi d=>by
  match i,d with
  | 0,_=>exact f.kp ((Kp.refl _).alloc _))
theorem RL.row3 (w:World)(e:TypeId){a:Value}{d:List UInt8}(k:Rd w a f)(j:Rd w b lb)(h:Rd w c d):RL (w.alloc (.cells #[a,b,c] e)) (.slice (some ⟨w.heap.size,0,none⟩) 3 3) [f,lb,d]:=
 RL.cons (us:=[b,c]) (ls:=[lb,d]) (Ku w #[a,b,c] 3 (Ja _) (by unfold maxLen;omega) rfl) (k.kp ((Kp.refl _).alloc _)) rfl (λi g=>by
  match i,g with
  | 0,_=>exact j.kp ((Kp.refl _).alloc _)
  | 1,_=>exact h.kp ((Kp.refl _).alloc _))
theorem RL.row4 (w:World)(e:TypeId){a d:Value}{h g:List UInt8}(n:Rd w a h)(m:Rd w b lb)(l:Rd w c g)(k:Rd w d f):RL (w.alloc (.cells #[a,b,c,d] e)) (.slice (some ⟨w.heap.size,0,none⟩) 4 4) [h,lb,g,f]:=
 RL.cons (us:=[b,c,d]) (ls:=[lb,g,f]) (Ku w #[a,b,c,d] 4 (Ja _) (by unfold maxLen;omega) rfl) (n.kp ((Kp.refl _).alloc _)) rfl (λi j=>by
  match i,j with
  | 0,_=>exact m.kp ((Kp.refl _).alloc _)
  | 1,_=>exact l.kp ((Kp.refl _).alloc _)
  | 2,_=>exact k.kp ((Kp.refl _).alloc _))
theorem bB {l:List UInt8}(h:Rd w v l):∃ a n c,v=.slice a n c:=by
 obtain⟨a,c,e,_⟩:=h.shape;exact⟨_,_,_,e⟩
theorem qf (n k:Int)(w:World)(b:-9223372036854775808<=n/\n<=9223372036854775807):
  Calls prog 209 #[.int .i64 n,.int .i64 k] w λe w'=>(∃ r,e=.returned r/\Ow 5 w' w.heap.size r (fs n k))/\Kp w w':=by
 have c:=Lib.hid (jY n k w b);clear b;go_enter func209,ntmps209;go_wp2_with fail;refine c.out.mono ?_;rintro _ f ⟨r,rfl,a,d⟩;obtain⟨i,g,h,rfl⟩:=bB a.rd;clear c;go_wp2_with fail;go_ret;exact⟨⟨_,rfl,a⟩,d⟩
theorem jO (v:Value)(l:List UInt8)(w:World)(h:Rd w v l):
  Calls prog 180 #[v] w λe w'=>(∃ r,e=.returned r/\Ow 5 w' w.heap.size r (aI l))/\Kp w w':=by
 have d:=Lib.hid (rg v l w h);obtain⟨a,c,rfl,_,_⟩:=h.shape;clear h;go_enter func180,ntmps180;go_wp2_with fail;refine d.out.mono ?_;rintro _ g ⟨r,rfl,b,f⟩;obtain⟨k,i,j,rfl⟩:=bB b.rd;clear d;go_wp2_with fail;go_ret;exact⟨⟨_,rfl,b⟩,f⟩
theorem Gy (v:Value)(b:List Int)(w:World)(z:RI w v b)(p:∀ i∈b,0<=i/\i<=65535)(A:b.length<=100):
  Calls prog 244 #[v] w λe w'=>(∃ r,e=.returned r/\Ow 5 w' w.heap.size r (unB b))/\Kp w w':=by
 have U:=aj;have u:=Lib.hid z;obtain⟨a,c,rfl,_,_⟩:=z.shape;obtain⟨f,j⟩:∃ f,b.length=f:=⟨_,rfl⟩;rw[j] at u A ⊢;have D:Hid (∀ (i:Nat) W,i<f->Calls prog 209 #[.int .i64 (b.getD i 0),.int .i64 2] W λe w'=>(∃ r,e=.returned r/\Ow 5 w' W.heap.size r (be 2 (b.getD i 0).toNat))/\Kp W w'):=λi W E=>by
  have I:b.getD i 0∈b:=by rw[IU,IV (by omega)];exact JD _
  obtain⟨K,J⟩:=p _ I;rw[<-sS ⟨K,J⟩];exact qf _ _ W (by omega)
 have l:Hid (∀ i,i<f->unB (b.take (i+1))=unB (b.take i)++be 2 (b.getD i 0).toNat):=λi E=>by
  rw[<-ut];congr 1
  rw[Mg,IU,IV (by omega)];rfl
 have m:Hid (b.take f=b):=by unfold Hid;rw[<-j];exact JM
 have k:Hid (∀ i,(unB (b.take i)).length<=200):=λi=>by rw[mP,Jv];omega
 clear j p z;go_enter func244,ntmps244;go_wp2_with fail;go_loopw[3,8] (λv x wr=>∃ i:Nat,i<=f/\x=.int .i64 (i:Int)/\Ow 5 wr w.heap.size v (unB (b.take i))/\Kp w wr) (λ_ x _=>(f - (intOf x).toNat))
 case atStart=>exact⟨0,Jl _,rfl,by rw[Lq];exact Ow.nil _ _ _,Kp.refl _⟩
 case round=>
  obtain⟨i,E,rfl,n,d⟩:=hrel;by_cases g:i<f
  ·obtain⟨Z,S,rfl,_,s⟩:=(u.out.kp d).at i g
   have M:=s i g;have Y:IntKind.i64.wrap ((i:Int)+1)=(i:Int)+1:=IW _ (by omega);have V:(i:Int)<(f:Int):=by omega
   have C:=Lib.hid (D.out i wr g);have h:=Lib.hid (l.out i g);have F:=Lib.hid d;have o:=Lib.hid n;have q:=k.out i;generalize b.getD i 0=X at *;obtain⟨B,t⟩:∃ B,unB (b.take i)=B:=⟨_,rfl⟩;rw[t] at o h q;clear s d n D l t k m u;go_wp2_with fail;refine C.out.mono ?_;rintro _ P ⟨⟨R,rfl,H⟩,y⟩;go_wp2_with(at_builtin;refine bz U rfl _ _ rfl w.heap.size _ B rfl (o.out.kp y) _ _ rfl H.rd (by rw[bl];omega) (F.out.trans y).size ?_;intro Q O G L _;have N:=Lib.hid (Kp.grown (F.out.trans y) L o.out.own_ge))
   go_roundw
   case rel=>exact⟨i+1,by omega,by go_num,by rw[h.out];exact G,N.out⟩
   case measure=>simp[intOf];omega
  ·obtain rfl:i=f:=by omega
   rw[m.out] at n;have q:¬(i:Int)<(i:Int):=by omega
   obtain⟨av,T,cv,rfl⟩:=bB n.rd;have o:=Lib.hid (Jb n d);clear d n D l k m u;go_wp2_with fail;go_ret;exact⟨⟨_,rfl,o.out.1⟩,o.out.2⟩
theorem sT (x:UInt8)(v:Value)(ls:List (List UInt8))(w:World)(h:RL w v ls)(f:0<ls.flatten.length)(l:ls.flatten.length<=1900)(y:ls.length<=1000):
  Calls prog 179 #[.int .u8 (x.toNat:Int),v] w λe w'=>(∃ r,e=.returned r/\Ow 5 w' w.heap.size r (bF ([x]++ls.flatten)))/\Kp w w':=by
 have U:=aj;have s:=Lib.hid (λW (z:Kp w W)=>lA v ls W (h.kp z) f (by omega) (by omega));obtain⟨a,c,rfl,_,_⟩:=h.shape;have q:=Lib.hid (Ow.lit w 5 w.heap.size 1 #[.int .u8 (x.toNat:Int)] [x] (Ja _) rfl (by omega) rfl);have t:=Lib.hid (Jb f l);clear h f l y;go_enter func179,ntmps179;go_wp2_with fail;refine(s.out _ ((Kp.refl _).alloc _)).mono ?_;rintro _ B ⟨⟨C,rfl,j⟩,d⟩;have p:=Lib.hid (((Kp.refl w).alloc (.cells #[.int .u8 (x.toNat:Int)] 5)).trans d);have b:=Lib.hid (q.out.kp d);clear d q s;go_wp2_with(at_builtin;refine bz U rfl _ _ rfl w.heap.size _ [x] rfl b.out _ _ rfl j.rd (by have:=t.out;simp only[Jo,Jt];omega) p.out.size ?_;intro u w2 i m _;have o:=Lib.hid (Kp.grown p.out m b.out.own_ge))
 refine(uH u ([x]++ls.flatten) w2 i.rd (by have:=t.out;simp only[Jc,Jo,Jt];omega)).mono ?_;rintro _ A ⟨⟨E,D,rfl,g⟩,k⟩;have n:=Lib.hid (Jb g (o.out.trans k));clear g k i m b j;go_wp2_with fail;go_ret;exact⟨⟨_,rfl,n.out.1.mono o.out.size⟩,n.out.2⟩
theorem yG (v:Value)(n:Nod)(w:World)(hv:NV w v n)(hn:dR n):
  Calls prog 207 #[v] w λe w'=>(∃ r,e=.returned r/\Ow 5 w' w.heap.size r (cI n))/\Kp w w':=by
 obtain⟨p,aa,h,rfl,ip,iu,ih⟩:=hv;have o:=(jW hn).1;obtain⟨a,t,pub,M,d⟩:=n;obtain⟨hk,ae,L,A,z,U⟩:=hn;simp only at hk ae L A z U ip iu ih;obtain⟨I,C,G,rfl⟩:=bB ip;obtain⟨J,D,H,rfl⟩:=bB ih;obtain⟨Y,R,V,rfl⟩:=iu.sl;simp only[bT];obtain⟨u,F⟩:∃ u:Int->World,u=λa=>w.alloc (.cells #[.int .i64 a,.int .i64 t,.slice I C G,.slice Y R V,.slice J D H] 81):=⟨_,rfl⟩
 have l:Hid (∀ a,Kp w (u a)):=λa=>by rw[F];exact(Kp.refl _).alloc _
 have s:Hid (∀ a,(u a).rangeAt w.heap.size 0 [.int .i64 a,.int .i64 t,.slice I C G,.slice Y R V,.slice J D H]):=λa=>by
  rw[F];intro j v hv;rw[cell_of_row _ _ (0+j) _ _ _ (heap_alloc_new w _)];simpa using hv
 have g:Hid (∀ a W,Kp (u a) W->W.cell? ⟨w.heap.size,0,none⟩=some (.int .i64 a)/\W.cell? ⟨w.heap.size,1,none⟩=some (.int .i64 t)/\W.cell? ⟨w.heap.size,2,none⟩=some (.slice I C G)/\W.cell? ⟨w.heap.size,3,none⟩=some (.slice Y R V)/\W.cell? ⟨w.heap.size,4,none⟩=some (.slice J D H)):=λa W k=>
  ⟨k.cell (s.out a 0 _ rfl),k.cell (s.out a 1 _ rfl),k.cell (s.out a 2 _ rfl),k.cell (s.out a 3 _ rfl),k.cell (s.out a 4 _ rfl)⟩
 have HP:Hid (∀ a W,Kp (u a) W->Calls prog 180 #[.slice I C G] W λe w'=>(∃ r,e=.returned r/\Ow 5 w' W.heap.size r (aI pub))/\Kp W w'):=λa W k=>jO _ pub W (ip.kp ((l.out a).trans k))
 have HH:Hid (∀ a W,Kp (u a) W->Calls prog 180 #[.slice J D H] W λe w'=>(∃ r,e=.returned r/\Ow 5 w' W.heap.size r (aI d))/\Kp W w'):=λa W k=>jO _ d W (ih.kp ((l.out a).trans k))
 have B:Hid (∀ a W,Kp (u a) W->Calls prog 244 #[.slice Y R V] W λe w'=>(∃ r,e=.returned r/\Ow 5 w' W.heap.size r (unB M))/\Kp W w'):=λa W k=>Gy _ M W (iu.kp ((l.out a).trans k)) (λi hi=>by have:=U i hi;omega) z
 have ab:Hid (∀ W,Calls prog 209 #[.int .i64 t,.int .i64 2] W λe w'=>(∃ r,e=.returned r/\Ow 5 w' W.heap.size r (be 2 t.toNat))/\Kp W w'):=λW=>by rw[<-sS ae];exact qf _ _ W (by omega)
 have f:Hid (∀ (a:Int) (b:UInt8) W,fs a 1=[b]->-9223372036854775808<=a/\a<=9223372036854775807->Calls prog 209 #[.int .i64 a,.int .i64 1] W λe w'=>(∃ r,e=.returned r/\Ow 5 w' W.heap.size r [b])/\Kp W w'):=λa b W e hb=>by rw[<-e];exact qf _ _ W hb
 have q:Hid (∀ a,w.alloc (.cells #[.int .i64 a,.int .i64 t,.slice I C G,.slice Y R V,.slice J D H] 81)=u a):=λa=>by rw[F]
 clear F s ip iu ih L A z U;rcases hk with rfl|rfl|rfl
 ·have g:=Lib.hid (g.out 0);have HW:=Lib.hid (q.out 0);have m:=Lib.hid (l.out 0)
  have f:=Lib.hid (λW=>f.out 0 0 W (by decide) (by omega));generalize u 0=WN at *;clear l HP HH B ab q;go_enter func207,ntmps207;go_wp2_with fail;rw[HW.out];have X:=(g.out _ (Kp.refl _)).1;go_wp2_with fail;refine(f.out _).mono ?_;rintro _ w2 ⟨⟨r2,rfl,x⟩,y⟩;have K:=Lib.hid (Jb x y);have X:=(g.out _ y).1;obtain⟨a2,n2,b2,rfl⟩:=bB x.rd;clear x y;go_wp2_with fail;go_ret;exact⟨⟨_,rfl,K.out.1.mono m.out.size⟩,m.out.trans K.out.2⟩
 ·have g:=Lib.hid (g.out 1);have HW:=Lib.hid (q.out 1);have m:=Lib.hid (l.out 1)
  have HP:=Lib.hid (HP.out 1);have HH:=Lib.hid (HH.out 1);have f:=Lib.hid (λW=>f.out 1 1 W (by decide) (by omega));have HE:Hid (cI ⟨1,t,pub,M,d⟩=[[1],be 2 t.toNat,aI pub,aI d].flatten):=by unfold Hid;simp[cI]
  rw[HE.out] at o ⊢;have ad:=Lib.hid o;generalize u 1=WN at *;clear l B q o;go_enter func207,ntmps207;go_wp2_with fail;rw[HW.out];have X:=(g.out _ (Kp.refl _)).1;go_wp2_with fail;refine(f.out _).mono ?_;rintro _ w2 ⟨⟨r2,rfl,x⟩,y⟩;have K:=Lib.hid y;have O2:=Lib.hid x.rd;have X:=(g.out _ y).1;obtain⟨a2,n2,b2,rfl⟩:=bB x.rd;clear x y;go_wp2_with fail;have c:Hid (∀ W,Kp WN W->W.cell? ⟨w.heap.size,1,none⟩=some (.int .i64 t)/\W.cell? ⟨w.heap.size,2,none⟩=some (.slice I C G)/\W.cell? ⟨w.heap.size,4,none⟩=some (.slice J D H)):=λW k=>⟨(g.out W k).2.1,(g.out W k).2.2.1,(g.out W k).2.2.2.2⟩
  have S2:=Lib.hid (c.out _ K.out.drew);clear g HW f HE X;go_region_held3 (λW=>W.cell? ⟨w.heap.size,1,none⟩=some (.int .i64 t)/\W.cell? ⟨w.heap.size,2,none⟩=some (.slice I C G)/\W.cell? ⟨w.heap.size,4,none⟩=some (.slice J D H))
   (first|with_reducible exact S2.out|with_reducible exact S3.out|with_reducible exact S4.out|with_reducible exact S5.out|with_reducible exact S6.out|with_reducible exact c.out _ (K5.out.alloc _))
   (first
    | (go_at_call 168;refine(lA _ [[1],be 2 t.toNat,aI pub,aI d] _ (RL.row4 w5 24 (O2.out.kp D5.out.1) (Q.rd.kp D5.out.2.1) (P.rd.kp D5.out.2.2) O.rd) (by simp) (by have:=ad.out;omega) (by simp)).mono ?_;rintro _ w6 ⟨⟨r6,rfl,N⟩,S⟩;obtain⟨a6,n6,b6,rfl⟩:=bB N.rd;have K6:=Lib.hid ((K5.out.alloc _).trans S);have S6:=Lib.hid (c.out _ K6.out))
    | (go_at_call 180;refine(HH.out _ K4.out).mono ?_;rintro _ w5 ⟨⟨r5,rfl,O⟩,E⟩;obtain⟨a5,n5,b5,rfl⟩:=bB O.rd;have K5:=Lib.hid (K4.out.trans E);have S5:=Lib.hid (c.out _ K5.out);have D5:=Lib.hid (Jb (D4.out.1.trans E) (Jb (D4.out.2.trans E) E)))
    | (go_at_call 180;refine(HP.out _ K3.out).mono ?_;rintro _ w4 ⟨⟨r4,rfl,P⟩,T⟩;obtain⟨a4,n4,b4,rfl⟩:=bB P.rd;have K4:=Lib.hid (K3.out.trans T);have S4:=Lib.hid (c.out _ K4.out);have D4:=Lib.hid (Jb (D3.out.trans T) T))
    | (go_at_call 209;refine(ab.out _).mono ?_;rintro _ w3 ⟨⟨r3,rfl,Q⟩,k3⟩;obtain⟨a3,n3,b3,rfl⟩:=bB Q.rd;have K3:=Lib.hid (K.out.drew.trans k3);have S3:=Lib.hid (c.out _ K3.out);have D3:=Lib.hid ((Kp.drew (Kp.refl w2)).trans k3)))
  have Z:=Lib.hid (Jb N (Jb K5.out K6.out));clear S2 S3 S4 S5 S6 N O P Q S c;go_wp2_with fail;go_ret;exact⟨⟨_,rfl,Z.out.1.mono (Js (m.out.trans Z.out.2.1).size (by simp))⟩,m.out.trans Z.out.2.2⟩
 ·have g:=Lib.hid (g.out 2);have HW:=Lib.hid (q.out 2);have m:=Lib.hid (l.out 2)
  have HP:=Lib.hid (HP.out 2);have HH:=Lib.hid (HH.out 2);have B:=Lib.hid (B.out 2);have f:=Lib.hid (λW=>f.out 2 2 W (by decide) (by omega));have HE:Hid (cI ⟨2,t,pub,M,d⟩=[[2],aI pub,aI d,aI (unB M)].flatten):=by unfold Hid;simp[cI]
  rw[HE.out] at o ⊢;have ad:=Lib.hid o;generalize u 2=WN at *;clear l q o ab;go_enter func207,ntmps207;go_wp2_with fail;rw[HW.out];have X:=(g.out _ (Kp.refl _)).1;go_wp2_with fail;refine(f.out _).mono ?_;rintro _ w2 ⟨⟨r2,rfl,x⟩,y⟩;have K:=Lib.hid y;have O2:=Lib.hid x.rd;have X:=(g.out _ y).1;obtain⟨a2,n2,b2,rfl⟩:=bB x.rd;clear x y;go_wp2_with fail;have c:Hid (∀ W,Kp WN W->W.cell? ⟨w.heap.size,2,none⟩=some (.slice I C G)/\W.cell? ⟨w.heap.size,3,none⟩=some (.slice Y R V)/\W.cell? ⟨w.heap.size,4,none⟩=some (.slice J D H)):=λW k=>⟨(g.out W k).2.2.1,(g.out W k).2.2.2.1,(g.out W k).2.2.2.2⟩
  have S2:=Lib.hid (c.out _ K.out.drew);clear g HW f HE X;go_region_held3 (λW=>W.cell? ⟨w.heap.size,2,none⟩=some (.slice I C G)/\W.cell? ⟨w.heap.size,3,none⟩=some (.slice Y R V)/\W.cell? ⟨w.heap.size,4,none⟩=some (.slice J D H))
   (first|with_reducible exact S2.out|with_reducible exact S3.out|with_reducible exact S4.out|with_reducible exact S5.out|with_reducible exact S6.out|with_reducible exact S7.out|with_reducible exact c.out _ (K6.out.alloc _))
   (first
    | (go_at_call 168;refine(lA _ [[2],aI pub,aI d,aI (unB M)] _ (RL.row4 w6 24 (O2.out.kp D6.out.1) (Q.rd.kp D6.out.2.1) (P.rd.kp D6.out.2.2) N.rd) (by simp) (by have:=ad.out;omega) (by simp)).mono ?_;rintro _ w7 ⟨⟨r7,rfl,o7⟩,k7⟩;obtain⟨a7,n7,b7,rfl⟩:=bB o7.rd;have K7:=Lib.hid ((K6.out.alloc _).trans k7);have S7:=Lib.hid (c.out _ K7.out))
    | (go_at_call 180;refine(jO _ (unB M) w5 O.rd).mono ?_;rintro _ w6 ⟨⟨r6,rfl,N⟩,S⟩;obtain⟨a6,n6,b6,rfl⟩:=bB N.rd;have K6:=Lib.hid (K5.out.trans S);have S6:=Lib.hid (c.out _ K6.out);have D6:=Lib.hid (Jb (D5.out.1.trans S) (Jb (D5.out.2.1.trans S) (D5.out.2.2.trans S))))
    | (go_at_call 244;refine(B.out _ K4.out).mono ?_;rintro _ w5 ⟨⟨r5,rfl,O⟩,E⟩;obtain⟨a5,n5,b5,rfl⟩:=bB O.rd;have K5:=Lib.hid (K4.out.trans E);have S5:=Lib.hid (c.out _ K5.out);have D5:=Lib.hid (Jb (D4.out.1.trans E) (Jb (D4.out.2.trans E) E)))
    | (go_at_call 180;refine(HH.out _ K3.out).mono ?_;rintro _ w4 ⟨⟨r4,rfl,P⟩,T⟩;obtain⟨a4,n4,b4,rfl⟩:=bB P.rd;have K4:=Lib.hid (K3.out.trans T);have S4:=Lib.hid (c.out _ K4.out);have D4:=Lib.hid (Jb (D3.out.trans T) T))
    | (go_at_call 180;refine(HP.out _ K.out.drew).mono ?_;rintro _ w3 ⟨⟨r3,rfl,Q⟩,k3⟩;obtain⟨a3,n3,b3,rfl⟩:=bB Q.rd;have K3:=Lib.hid (K.out.drew.trans k3);have S3:=Lib.hid (c.out _ K3.out);have D3:=Lib.hid ((Kp.drew (Kp.refl w2)).trans k3)))
  have Z:=Lib.hid (Jb o7 (Jb K6.out K7.out));clear S2 S3 S4 S5 S6 S7 o7 N O P Q k7 c;go_wp2_with fail;go_ret;exact⟨⟨_,rfl,Z.out.1.mono (Js (m.out.trans Z.out.2.1).size (by simp))⟩,m.out.trans Z.out.2.2⟩
section
open Go.Maps
theorem yH:Keyed prog 3:=int_keyed underlying3
theorem Gz (w:World):(zeroValue 237).run prog w=.ok (.agg #[]) w:=by kernel_rfl
theorem GA (n:Int)(w:World):(Instr.makeMap 236 (some (.int .i64 n))).run prog w=.ok (.map (some w.heap.size)) (w.alloc (.map #[] 0)):=by
 simp[Instr.makeMap,run_underlying underlying236,asInt,Result.andThen,newObj];rfl
def js (g:List Int):DataW Unit:=setOf (.agg []) (g.map λi=>Lit.int .i64 (2*i))
theorem GB (g:List Int)(x:Int):js (g++[x])=(js g).put (.int .i64 (2*x)) (.agg []):=by
 unfold js;rw[Kx,List.map_cons,List.map_nil,setOf_snoc]
theorem GC (g:List Int)(x:Int):Maps.has (js g) (.int .i64 x)=decide (x∈g.map (2*·)):=by
 unfold js;rw[has_setOf]
 ·by_cases h:x∈g.map (2*·)
  ·rw[Jy h,MF]
   obtain⟨i,a,rfl⟩:=JO.1 h;exact⟨_,JO.2 ⟨i,a,rfl⟩,by simp[Lit.sameKey]⟩
  ·rw[Jr h,List.any_eq_false]
   intro k b;obtain⟨i,a,rfl⟩:=JO.1 b;intro e;refine h (JO.2 ⟨i,a,?_⟩);simpa [Lit.sameKey] using e
 ·intro k b
  obtain⟨i,a,rfl⟩:=JO.1 b;trivial
def Cnt (w:World)(v:Value)(g:List Int):Prop:=
 ∃ b m n,v=.func (.func 210) #[] #[.pointer (some ⟨b,0,none⟩)]/\Bx w b 236 #[.map (some m)]/\w.ownsMap prog 3 (unitElem (H:=Unit)) m n (js g)
theorem Cnt.kp {w':World}(h:Cnt w v g)(k:Kp w w'):Cnt w' v g:=by
 obtain⟨b,m,n,e,d,c⟩:=h;exact⟨b,m,n,e,d.kp k,c.kept ⟨k.os,k.tape,k.output,k.size,λi a _=>k.block i a⟩ (row:=none) (by simp)⟩
theorem GD (b m n:Nat)(g:List Int)(x:Int)(w:World)(d:Bx w b 236 #[.map (some m)])(c:w.ownsMap prog 3 (unitElem (H:=Unit)) m n (js g))(k:-9223372036854775808<=x/\x<=9223372036854775807):
  Calls prog 210 #[.int .i64 x,.pointer (some ⟨b,0,none⟩)] w λe w'=>e=.returned (.bool (!decide (x∈g.map (2*·))))/\Kp w w':=by
 have f:=d.cell 0;simp only[Jj,Jg] at f;have a:Go.keyOf prog 3 (.int .i64 x)=some (.int .i64 x):=keyOf_int_mk underlying3 (Ln (by omega));have i:=Lib.hid (GC g x);have j:=Lib.hid c;clear d c;go_enter func210,ntmps210;go_wp2_with(first
  | (at_lookup;refine wpList_lookup_own_unit _ rfl _ _ 236 rfl 3 237 yH underlying236 (Gz _) m n _ rfl j.out _ _ rfl a ?_)
  | go_in)
 have h:Hid (Kp w (w.alloc (.cells #[] 237))):=(Kp.refl _).alloc _;rw[i.out];go_ret;exact⟨rfl,h.out⟩
theorem Cnt.call (h:Cnt w v g):
  ∃ b,v=.func (.func 210) #[] #[.pointer (some ⟨b,0,none⟩)]/\∀ (y:Int) (W:World),Kp w W->-9223372036854775808<=y/\y<=9223372036854775807 ->
   Calls prog 210 #[.int .i64 y,.pointer (some ⟨b,0,none⟩)] W λe w'=>e=.returned (.bool (!decide (y∈g.map (2*·))))/\Kp W w':=by
 obtain⟨b,m,n,e,f,d⟩:=h;exact⟨b,e,λy W k a=>GD b m n g y W (f.kp k) (d.kept ⟨k.os,k.tape,k.output,k.size,λi c _=>k.block i c⟩ (row:=none) (by simp)) a⟩
theorem GG (v:Value)(g:List Int)(w:World)(C:RI w v g)(O:g.length<=100000)(I:∀ i∈g,-1000000<=i/\i<=1000000):
  Calls prog 178 #[v] w λe w'=>(∃ r,e=.returned r/\Cnt w' r g)/\Kp w w':=by
 have D:=GA;have B:=Lib.hid C;obtain⟨a,c,rfl,_,_⟩:=C.shape;obtain⟨h,m⟩:∃ h,g.length=h:=⟨_,rfl⟩;rw[m] at B O ⊢;clear C;go_enter func178,ntmps178;go_wp2_with fail;obtain⟨u,d⟩:∃ u,(w.alloc (.map #[] 0)).alloc (.cells #[.map (some w.heap.size)] 236)=u:=⟨_,rfl⟩;have t:Bx u (w.heap.size+1) 236 #[.map (some w.heap.size)]:=by
  rw[<-d];have:=Bx.new (w.alloc (.map #[] 0)) 236 #[.map (some w.heap.size)];rwa [Jn] at this
 have n:u.ownsMap prog 3 (unitElem (H:=Unit)) w.heap.size 0 (js (g.take 0)):=by
  rw[<-d];exact(World.ownsMap_made w prog 3 (unitElem (H:=Unit))).alloc _
 have q:Kp w u:=by rw[<-d];exact((Kp.refl _).alloc _).alloc _
 rw[d];clear d D;have F:Hid (∀ i,i<h->g.take (i+1)=g.take i++[g.getD i 0]/\-1000000<=g.getD i 0/\g.getD i 0<=1000000):=λi Q=>by
  have o:g.getD i 0∈g:=by rw[IU,IV (by omega)];exact JD _
  refine⟨?_,I _ o⟩;rw[Mg,IU,IV (by omega)];rfl
 have y:Hid (g.take h=g):=by unfold Hid;rw[<-m];exact JM
 clear I m;have V:=Lib.hid (Jb t (Jb n q));clear t n q;go_loopw[11] (λx wr=>∃ i:Nat,i<=h/\x=.int .i64 (i:Int)/\Bx wr (w.heap.size+1) 236 #[.map (some w.heap.size)]/\wr.ownsMap prog 3 (unitElem (H:=Unit)) w.heap.size i (js (g.take i))/\Kp w wr) (λx _=>(h - (intOf x).toNat))
 case atStart=>exact⟨0,Jl _,rfl,V.out⟩
 case round=>
  obtain⟨i,Q,rfl,A,o,f⟩:=hrel;have z:=Lib.hid (Jb A (Jb o f));by_cases l:i<h
  ·obtain⟨gu,Y,rfl,_,s⟩:=(B.out.kp f).at i l
   have T:=s i l;have U:=A.cell 0;simp only[Jj,Jg] at U;obtain⟨J,S,R⟩:=F.out i l;have i1:IntKind.i64.wrap ((i:Int)+1)=(i:Int)+1:=IW _ (by omega);have Z:(i:Int)<(h:Int):=by omega
   have E:=Lib.hid J;generalize g.getD i 0=X at *;have i2:IntKind.i64.wrap (2*X)=2*X:=IW _ (by omega);have p:Go.keyOf prog 3 (.int .i64 (2*X))=some (.int .i64 (2*X)):=keyOf_int_mk underlying3 (Ln (by omega));have M:i<maxLen:=by unfold maxLen;omega
   clear s f A o F B y J S R;go_wp2_with(at_mapUpdate;refine wpList_mapUpdate_own _ rfl _ _ _ 236 rfl 3 237 yH underlying236 (unitElem (H:=Unit)) w.heap.size i _ rfl z.out.2.1 M _ _ _ rfl rfl p _ [] unitElem_mk ?_;intro W j b)
   go_roundw
   case rel=>exact⟨i+1,by omega,by go_num,z.out.1.grown b (by simp),by rw[E.out,GB];exact j,Below.grown z.out.2.2 b z.out.2.2.size (λk P=>by cases P;exact Ja _)⟩
   case measure=>simp[intOf];omega
  ·obtain rfl:i=h:=by omega
   have N:¬(i:Int)<(i:Int):=by omega
   clear A o f F B;go_wp2_with fail;go_ret;obtain⟨L,G,K⟩:=z.out;rw[y.out] at G;exact⟨⟨_,rfl,_,_,_,rfl,L,G⟩,K⟩
end
theorem GH (l:List Int)(g:List Int)(i:Nat)(h:i<l.length):
  (l.take (i+1)).filter (λi=>decide (i∉g))=(l.take i).filter (λi=>decide (i∉g))++(if l.getD i 0∈g then [] else [l.getD i 0]):=by
 rw[Mg,IV h,Mw,IU,IV h];simp only[Option.toList_some,LA];by_cases a:l[i]∈g
 ·rw[if_pos a];simp[a]
 ·rw[if_neg a];simp[a]
theorem sU (g:List Int)(i:Int):2*i∈g.map (2*·)↔i∈g:=by
 constructor
 ·intro h
  obtain⟨j,a,e⟩:=JO.1 h;have:j=i:=by omega
  exact this▸a
 ·exact λh=>JO.2 ⟨i,h,rfl⟩
theorem yI (v vc:Value)(n:Nod)(x:Int)(g:List Int)(w:World)(hv:NV w v n)(hn:dR n)(hc:Cnt w vc g)(hx:0<=x/\x<=1000000):
  Calls prog 208 #[v,.int .i64 x,vc] w λe w'=>(∃ r,e=.returned r/\NV w' r (if x∈g.map (2*·) then aY else eO n g))/\Kp w w':=by
 have S:=fX;obtain⟨cb,rfl,ay⟩:=hc.call;have B:=Lib.hid ay;obtain⟨p,aa,h,rfl,ip,iu,ih⟩:=hv;have O:=Lib.hid (Jb ip (Jb iu ih));obtain⟨Z,Q,V,rfl⟩:=bB ip;obtain⟨ah,R,X,rfl⟩:=bB ih;obtain⟨au,cu,rfl,pu,_⟩:=iu.shape;simp only[bT];have ad:=hn.un;have T:=hn.unl;obtain⟨E,t⟩:∃ E,(w.alloc (.cells #[.int .i64 n.kind,.int .i64 n.name,.slice Z Q V,.slice au n.un.length cu,.slice ah R X] 81)).alloc (.cells #[.int .i64 0,.int .i64 0,.slice none 0 0,.slice none 0 0,.slice none 0 0] 81)=E:=⟨_,rfl⟩;have G:=Lib.hid t;have aA:Bx E w.heap.size 81 #[.int .i64 n.kind,.int .i64 n.name,.slice Z Q V,.slice au n.un.length cu,.slice ah R X]:=by rw[<-t];exact(Bx.new _ _ _).kp ((Kp.refl _).alloc _)
 have az:Bx E (w.heap.size+1) 81 #[.int .i64 0,.int .i64 0,.slice none 0 0,.slice none 0 0,.slice none 0 0]:=by
  rw[<-t];have:=Bx.new (w.alloc (.cells #[.int .i64 n.kind,.int .i64 n.name,.slice Z Q V,.slice au n.un.length cu,.slice ah R X] 81)) 81 #[.int .i64 0,.int .i64 0,.slice none 0 0,.slice none 0 0,.slice none 0 0];rwa [Jn] at this
 have aq:Kp w E:=by rw[<-t];exact((Kp.refl _).alloc _).alloc _
 have al:E.heap.size=w.heap.size+2:=by rw[<-t];simp
 have I:=Lib.hid aA;have P:=Lib.hid az;have HZ:=Lib.hid (Jb aq al);clear t aA az aq al hc ay ip ih hn;by_cases o:x∈g.map (2*·)
 ·rw[if_pos o]
  have f:=Lib.hid (B.out x E HZ.out.1 (by omega));rw[Jy o] at f;clear o hx B O iu ad T;go_enter func208,ntmps208;go_wp2_with fail;rw[G.out];refine f.out.mono ?_;rintro _ w2 ⟨rfl,k2⟩;have HB:=Lib.hid (P.out.kp k2);have aU:=Lib.hid (HZ.out.1.trans k2);have ag:=Lib.hid (HB.out.there);have an:=oG (n:=aY) (NIn.mk (cL w2) (RI.nil w2) (cL w2));clear k2 f I P G;go_wp2_with(refine xi rfl rfl 81 (.tmp 6) (.tmp 14) rfl (w.heap.size+1) 0 [.int .i64 0,.int .i64 0,.slice none 0 0,.slice none 0 0,.slice none 0 0] rfl rfl rfl an ag.out iQ ?_;intro W3 aC)
  have aL:Bx W3 (w.heap.size+1) 81 #[.int .i64 0,.int .i64 0,.slice none 0 0,.slice none 0 0,.slice none 0 0]:=by rw[aC];exact HB.out.fill #[.int .i64 0,.int .i64 0,.slice none 0 0,.slice none 0 0,.slice none 0 0] rfl
  have aJ:Kp w W3:=by rw[aC];exact aU.out.setCells (by omega) _ _
  refine bodyPost_ret (results_cell_row rfl _ _ (w.heap.size+1) _ _ (0,0) _ rfl aL underlying81 rfl iQ) rfl ?_;exact⟨⟨_,rfl,NV.blank _⟩,aJ⟩
 ·rw[if_neg o]
  have f:=Lib.hid (B.out x E HZ.out.1 (by omega));rw[Jr o] at f;obtain⟨J,L⟩:∃ J,n.un.length=J:=⟨_,rfl⟩;have H:=Lib.hid (GH n.un g);obtain⟨F,hF⟩:∃ F:Nat->List Int,F=λi=>(n.un.take i).filter (λi=>decide (i∉g)):=⟨_,rfl⟩
  have aD:∀ i,(n.un.take i).filter (λi=>decide (i∉g))=F i:=λi=>by rw[hF]
  have aF:Hid (eO n g=⟨n.kind,n.name,n.pub,F J,n.hash⟩):=by
   unfold Hid eO;rw[hF,<-L];simp only[JM]
  have aj:Hid (∀ i,(F i).length<=100):=λi=>by rw[hF];exact Js (LZ _ _) (by rw[Jv];omega)
  have ak:Hid (F 0=[]):=by rw[hF];rfl
  have af:Hid (∀ i,i<J->0<=n.un.getD i 0/\n.un.getD i 0<=1023):=λi hi=>by
   have hm:n.un.getD i 0∈n.un:=by rw[IU,IV (by omega)];exact JD _
   exact ad _ hm
  have N:Hid (∀ W,Kp w W->RI W (.slice au J cu) n.un):=λW hW=>by rw[<-L];exact iu.kp hW
  rw[aF.out];rw[L] at G I H T pu O ⊢;simp only[aD] at H;have ai:=Lib.hid (sU g);clear o hx iu ad L hF aD aF;go_enter func208,ntmps208;go_wp2_with fail;rw[G.out];refine f.out.mono ?_;rintro _ w2 ⟨rfl,k2⟩;have K2:=Lib.hid k2;have c3:=(I.out.kp k2).cell 3;simp only[Jj,Jg,Jk] at c3;clear k2 f G;go_wp2_with fail;clear c3;go_loopw[7,18] (λv x wr=>∃ i:Nat,i<=J/\x=.int .i64 (i:Int)/\OI 3 wr E.heap.size v (F i)/\Kp E wr) (λ_ x _=>(J - (intOf x).toNat))
  case atStart=>exact⟨0,Jl _,rfl,by rw[ak.out];exact OI.nil _ _ _,K2.out⟩
  case round=>
   obtain⟨i,hi,rfl,ho,a⟩:=hrel;have KR:=Lib.hid a;have HO:=Lib.hid ho;by_cases d:i<J
   ·obtain⟨gu,ou,rfl,_,ax⟩:=(N.out _ (HZ.out.1.trans a)).at i d
    have a2:=ax i d;have i1:IntKind.i64.wrap ((i:Int)+1)=(i:Int)+1:=IW _ (by omega);have i3:(i:Int)<(J:Int):=by omega
    have l:=Lib.hid (H.out i (by have:=N.out _ (Kp.refl _);obtain⟨_,_,e,_⟩:=this.shape;simp only[Ji] at e;omega));have a0:=af.out i d;have aX:=aj.out i;generalize n.un.getD i 0=Y at *;have i2:IntKind.i64.wrap (2*Y)=2*Y:=IW _ (by omega);have q:=Lib.hid (B.out (2*Y) wr (HZ.out.1.trans a) (by omega));have K:=ai.out Y;clear ax a ho H N aj ak af B ai;by_cases hy:Y∈g
    ·rw[Jy (K.2 hy)] at q
     rw[if_pos hy,Kj] at l;clear hy K;go_wp2_with fail;refine q.out.mono ?_;rintro _ w3 ⟨rfl,k3⟩;have KE:=Lib.hid (Jb (HO.out.kp k3) (KR.out.trans k3));clear k3 q HO KR;go_wp2_with fail;go_roundw
     case rel=>exact⟨i+1,by omega,by go_num,by rw[l.out];exact KE.out.1,KE.out.2⟩
     case measure=>simp[intOf];omega
    ·rw[Jr (λh=>hy (K.1 h))] at q
     rw[if_neg hy] at l;clear hy K;go_wp2_with fail;refine q.out.mono ?_;rintro _ w3 ⟨rfl,k3⟩;have KE:=Lib.hid (Jb (HO.out.kp (k3.alloc (.cells #[.int .i64 Y] 3))) (KR.out.trans (k3.alloc (.cells #[.int .i64 Y] 3))));clear k3 q HO KR;go_wp2_with(at_builtin;refine gx S rfl _ _ rfl E.heap.size _ (F i) rfl KE.out.1 _ [Y] rfl (RI.lit w3 3 #[.int .i64 Y] [Y] 1 rfl (by omega) rfl).ri (by simp;omega) KE.out.2.size ?_;intro v9 w9 o9 g9;have K9:=Lib.hid (Kp.grown KE.out.2 g9 (λk hk=>(OI.lt KE.out.1 k hk).1)))
     go_roundw
     case rel=>exact⟨i+1,by omega,by go_num,by rw[l.out];exact o9,K9.out⟩
     case measure=>simp[intOf];omega
   ·obtain rfl:i=J:=by omega
    have a1:¬(i:Int)<(i:Int):=by omega
    obtain⟨A,m,u,rfl⟩:=ho.ri.sl;obtain⟨aH,aZ⟩:=HZ.out;have aG:=Lib.hid (I.out.kp a);have aV:=Lib.hid (P.out.kp a);have aS:=Lib.hid (aH.trans a);have ag:Hid (wr.there w.heap.size 3 1):=λj hj=>by have:=aG.out.there (3+j) (by simp;omega);rwa [JS] at this
    clear a ho H N aj ak af B ai I P KR hi d K2;have U:∀ M,M=wr.setCells w.heap.size 3 [.slice A m u]->Bx M w.heap.size 81 #[.int .i64 n.kind,.int .i64 n.name,.slice Z Q V,.slice A m u,.slice ah R X]/\Bx M (w.heap.size+1) 81 #[.int .i64 0,.int .i64 0,.slice none 0 0,.slice none 0 0,.slice none 0 0]/\RI M (.slice A m u) (F i)/\(Kp w M/\∀ D,(Value.slice A m u).ownBlock=some D->w.heap.size+2<=D):=λM e=>by
     have aw:=fF wr w.heap.size 0 [.slice A m u] 3;have d:∀ D,(Value.slice A m u).ownBlock=some D->w.heap.size+2<=D:=λD C=>by have:=(OI.lt HO.out D C).1;omega
     rw[e];exact⟨aG.out.set 3 (.slice A m u),aV.out.grown aw (by simp),(HO.out.grown9 aw (λD C e=>by have:=d D C;simp at e;omega)).ri,aS.out.setCells (Ja _) _ _,d⟩
    have aW:=Lib.hid U;clear U;go_wp2_with(first
     | (refine kt rfl rfl 34 (.tmp 32) (.tmp 31) rfl w.heap.size 3 (.slice A m u) rfl rfl rfl ag.out xg ?_;intro M aB;obtain⟨s,ab,am,ar,ao⟩:=aW.out M aB;have c0:=s.cell 0;have c1:=s.cell 1;have c2:=s.cell 2;have c3:=s.cell 3;have c4:=s.cell 4;simp only[Jj,Jg,Jk] at c0 c1 c2 c3 c4;have aO:=Lib.hid ab;have aP:=Lib.hid am;have aT:=Lib.hid ar;have aR:=Lib.hid ao;have aE:=Lib.hid ab.there;clear aB s ab am ar ao)
     | (refine xi rfl rfl 81 (.tmp 6) (.tmp 33) rfl (w.heap.size+1) 0 [.int .i64 n.kind,.int .i64 n.name,.slice Z Q V,.slice A m u,.slice ah R X] rfl rfl rfl (by intro z hz;simp only[Ki,LC,or_false] at hz;rcases hz with rfl|rfl|rfl|rfl|rfl <;> rfl) aE.out iQ ?_;intro W5 aN))
    subst aN;have aK:=aO.out.fill #[.int .i64 n.kind,.int .i64 n.name,.slice Z Q V,.slice A m u,.slice ah R X] rfl;have ae:=aT.out.setCells (b:=w.heap.size+1) (by omega) [.int .i64 n.kind,.int .i64 n.name,.slice Z Q V,.slice A m u,.slice ah R X] 0;have aM:aQ (.slice (some ⟨w.heap.size+1,0,none⟩) 0 0) (.slice A m u):=λD C y n c e h0 he=>by
     have h2:D=w.heap.size+1:=by cases C;rfl
     have h3:=aR.out y.block (by rw[e];rfl);omega
    have aI:=aP.out.grown9 (v:=.slice (some ⟨w.heap.size+1,0,none⟩) 0 0) (fF M (w.heap.size+1) 0 [.int .i64 n.kind,.int .i64 n.name,.slice Z Q V,.slice A m u,.slice ah R X] 0) aM;refine bodyPost_ret (results_cell_row rfl _ _ (w.heap.size+1) _ _ (0,0) _ rfl aK underlying81 rfl iQ) rfl ?_;exact⟨⟨_,rfl,⟨_,_,_,rfl,⟨O.out.1.kp ae,aI,O.out.2.2.kp ae⟩⟩⟩,ae⟩
theorem GI {n:Nod}(g:List Int)(h:n.kind≠2):cI (eO n g)=cI n:=by
 unfold cI eO;simp only[h,if_false]
theorem GJ (L y:Value)(t:List Nod)(g:List Int)(K q:Nat)(w:World)(k:bk t K)(Q:NL w L t)(E:Cnt w y g)(d:Tab w)(D:q<2 ^ K):
  Calls prog 176 #[L,.int .i64 ((nd 0 q:Nat):Int),y] w λe w'=>(∃ r,e=.returned r/\Ow 5 w' w.heap.size r (bQ t g 0 q))/\Kp w w':=by
 obtain⟨Z,x2⟩:=k.lt (j:=0) (Jl _) (by simpa using D);have hk:=bP k.le;obtain⟨b,ab,c,p,aa,h,rfl,a⟩:=Q.node Z;obtain⟨c0,c1,c2,c3,c4⟩:=Jb a.kind (Jb a.name (Jb a.pubC (Jb a.unC a.hashC)));have o:nd 0 q=2*q:=fa q;have u:(ats t (nd 0 q)).kind≠2:=λe=>by have:=k.par _ e;omega
 have R:cI (if ((nd 0 q:Nat):Int)∈g.map (2*·) then aY else eO (ats t (nd 0 q)) g)=cI (if (q:Int)∈g then aY else ats t (nd 0 q)):=by
  have e:((nd 0 q:Nat):Int)=2*(q:Int):=by omega
  rw[e];by_cases x:(q:Int)∈g
  ·rw[if_pos ((sU g _).2 x),if_pos x]
  ·rw[if_neg (λh=>x ((sU g _).1 h)),if_neg x,GI g u]
 have i:dR (if ((nd 0 q:Nat):Int)∈g.map (2*·) then aY else eO (ats t (nd 0 q)) g):=by
  split
  ·exact dR.blank
  ·exact(k.node _).less g
 have n:=Lib.hid (yI (.agg (bT (ats t (nd 0 q)) p aa h).toArray) y (ats t (nd 0 q)) ((nd 0 q:Nat):Int) g w ⟨p,aa,h,rfl,a.2⟩ (k.node _) E (by omega));have HD:Hid (bQ t g 0 q=bF ([1]++[be 2 q,cI (if ((nd 0 q:Nat):Int)∈g.map (2*·) then aY else eO (ats t (nd 0 q)) g)].flatten)):=by unfold Hid;rw[R];simp[bQ]
 rw[HD.out];have s:=(jW i).1;generalize (if ((nd 0 q:Nat):Int)∈g.map (2*·) then aY else eO (ats t (nd 0 q)) g)=m9 at *;have F:=Lib.hid i;have G:=Lib.hid s;obtain⟨_,J,I⟩:=dW k.le (Jl K) (show q<2 ^ (K - 0) by simpa using D);have v:=fm J I;have l:=Lib.hid (λW (hW:Kp w W)=>kX ((nd 0 q:Nat):Int) W (d.kp hW));rw[v] at l;have f:Hid (∀ W,Calls prog 209 #[.int .i64 (q:Int),.int .i64 2] W λe w'=>(∃ r,e=.returned r/\Ow 5 w' W.heap.size r (be 2 q))/\Kp W w'):=λW=>by
  have:=qf (q:Int) 2 W (by omega);rwa [sS (by omega),Jm] at this
 have e2:((nd 0 q:Nat):Int).tdiv 2=(q:Int):=by rw[o,JK (by omega)];omega
 have e3:IntKind.i64.wrap (q:Int)=(q:Int):=IW _ (by omega);have e4:((nd 0 q:Nat):Int)<(t.length:Int):=by omega
 have H:=Lib.hid a.2;obtain⟨ap,np,cp,rfl⟩:=bB a.2.pub;obtain⟨au,nu,cu,rfl⟩:=a.2.un.sl;obtain⟨ah,nh,ch,rfl⟩:=bB a.2.hash;obtain⟨cb,rfl,_⟩:=E.call;clear k Q E a o D R i u s J I v d H;simp only[bT] at n;generalize nd 0 q=X at *;generalize t.length=TL at *;generalize ats t X=m at *;go_enter func176,ntmps176;go_wp2_with fail;refine n.out.mono ?_;rintro _ w1 ⟨⟨r1,rfl,M⟩,P⟩;clear n c0 c1 c2 c3 c4;go_wp2_with fail;refine(yG r1 m9 w1 M F.out).mono ?_;rintro _ w2 ⟨⟨r2,rfl,B⟩,O⟩;have V:=Lib.hid (P.trans O);have S:=Lib.hid B.rd;obtain⟨a2,n2,b2,rfl⟩:=bB B.rd;clear M P O B;go_wp2_with fail;refine(l.out _ V.out).mono ?_;rintro _ _ ⟨rfl,rfl⟩;go_wp2_with fail;refine(f.out _).mono ?_;rintro _ w3 ⟨⟨r3,rfl,A⟩,C⟩;have Y:=Lib.hid (RL.row2 w3 24 A.rd (S.out.kp C));have U:=Lib.hid (V.out.trans (C.alloc (.cells #[r3,.slice a2 n2 b2] 24)));obtain⟨a3,n3,b3,rfl⟩:=bB A.rd;clear A C S f l;go_wp2_with fail;refine(sT 1 _ _ _ Y.out (by rw[Lh,Jc,bl];omega) (by have:=G.out;simp only[Lh,Mm,Jc,bl,Jt];omega) (by simp)).mono ?_;rintro _ w4 ⟨⟨r4,rfl,z⟩,N⟩;have T:=Lib.hid (Jb z (U.out.trans N));obtain⟨a4,n4,b4,rfl⟩:=bB z.rd;clear z N Y;go_wp2_with fail;go_ret;exact⟨⟨_,rfl,T.out.1.mono U.out.size⟩,T.out.2⟩
theorem GK (t:List Nod)(K j:Nat)(E:bk t K)(hj:j+1<=K)
  (IH:∀ (q:Nat) (w:World) (y k:Value) (g:List Int),NL w y t->Cnt w k g->Tab w->q<2 ^ (K - j)->Calls prog 176 #[y,.int .i64 ((nd j q:Nat):Int),k] w λe w'=>(∃ r,e=.returned r/\Ow 5 w' w.heap.size r (bQ t g j q))/\Kp w w')
  (q:Nat) (w:World) (y k:Value) (g:List Int) (Q:NL w y t) (D:Cnt w k g) (a:Tab w) (R:q<2 ^ (K - (j+1))):
  Calls prog 176 #[y,.int .i64 ((nd (j+1) q:Nat):Int),k] w λe w'=>(∃ r,e=.returned r/\Ow 5 w' w.heap.size r (bQ t g (j+1) q))/\Kp w w':=by
 obtain⟨x1,x2⟩:=E.lt hj R;obtain⟨b,af,c,p,aa,h,rfl,f⟩:=Q.node x1;obtain⟨c0,c1,c2,c3,c4⟩:=Jb f.kind (Jb f.name (Jb f.pubC (Jb f.unC f.hashC)));have B:=jt j q;have l:¬((nd (j+1) q:Nat):Int)∈g.map (2*·):=λh=>by
  obtain⟨i,_,e⟩:=JO.1 h;omega
 have n:=yI (.agg (bT (ats t (nd (j+1) q)) p aa h).toArray) k (ats t (nd (j+1) q)) ((nd (j+1) q:Nat):Int) g w ⟨p,aa,h,rfl,f.2⟩ (E.node _) D (by omega);rw[if_neg l] at n;have v:=Lib.hid n;have s:=Lib.hid ((E.node (nd (j+1) q)).less g);have ae:=Lib.hid (jW s.out).1;obtain⟨A,z⟩:=qe hj R;obtain⟨_,y1,Z⟩:=dW E.le hj R;obtain⟨f1,f2,f3⟩:=fD (j:=j) (q:=q) y1 Z;have C:=fm y1 Z;have u:=Lib.hid (λW (d:Kp w W)=>kX ((nd (j+1) q:Nat):Int) W (a.kp d));rw[C] at u;have ai:(((j+1:Nat):Int)==0)=false:=Jd.2 (by omega);have ag:¬(((j+1:Nat):Int)=0):=by omega
 have L:Hid (∀ W,Kp w W->Calls prog 177 #[.int .i64 ((nd (j+1) q:Nat):Int),.int .i64 0] W λe w'=>e=.returned (.int .i64 ((nd j (2*q):Nat):Int))/\W=w'):=λW d=>by
  have:=sw ((nd (j+1) q:Nat):Int) 0 W (a.kp d);rwa [if_neg (by decide),f2] at this
 have J:Hid (∀ W,Kp w W->Calls prog 177 #[.int .i64 ((nd (j+1) q:Nat):Int),.int .i64 1] W λe w'=>e=.returned (.int .i64 ((nd j (2*q+1):Nat):Int))/\W=w'):=λW d=>by
  have:=sw ((nd (j+1) q:Nat):Int) 1 W (a.kp d);rwa [if_pos rfl,f3] at this
 have I:=Lib.hid (λW (d:Kp w W)=>IH (2*q) W _ k g (Q.kp d) (D.kp d) (a.kp d) A);have H:=Lib.hid (λW (d:Kp w W)=>IH (2*q+1) W _ k g (Q.kp d) (D.kp d) (a.kp d) z);have G:=Lib.hid (ly t g j (2*q));have F:=Lib.hid (ly t g j (2*q+1));have HD:Hid (bQ t g (j+1) q=bF ([2]++[cI (eO (ats t (nd (j+1) q)) g),aI (bQ t g j (2*q)),aI (bQ t g j (2*q+1))].flatten)):=by unfold Hid;simp[bQ]
 rw[HD.out];have e4:((nd (j+1) q:Nat):Int)<(t.length:Int):=by omega
 obtain⟨ap,np,cp,rfl⟩:=bB f.2.pub;obtain⟨au,nu,cu,rfl⟩:=f.2.un.sl;obtain⟨ah,nh,ch,rfl⟩:=bB f.2.hash;obtain⟨cb,rfl,_⟩:=D.call;generalize bQ t g j (2*q)=Y at *;generalize bQ t g j (2*q+1)=V at *;clear E Q D f R l n B IH A z y1 Z f1 f2 f3 C a;simp only[bT] at v;generalize eO (ats t (nd (j+1) q)) g=m9 at *;generalize nd j (2*q)=XL at *;generalize nd j (2*q+1)=XR at *;generalize nd (j+1) q=X at *;generalize t.length=TL at *;generalize ats t X=m at *;generalize ((j+1:Nat):Int)=JJ at *;go_enter func176,ntmps176;go_wp2_with fail;refine v.out.mono ?_;rintro _ w1 ⟨⟨r1,rfl,o1⟩,A⟩;clear v c0 c1 c2 c3 c4;go_wp2_with fail;refine(yG r1 m9 w1 o1 s.out).mono ?_;rintro _ w2 ⟨⟨r2,rfl,o2⟩,z⟩;have U:=Lib.hid (A.trans z);have O2:=Lib.hid o2.rd;obtain⟨a2,n2,b2,rfl⟩:=bB o2.rd;clear o1 A z o2;go_wp2_with fail;refine(u.out _ U.out).mono ?_;rintro _ _ ⟨rfl,rfl⟩;go_wp2_with fail;refine(L.out _ U.out).mono ?_;rintro _ _ ⟨rfl,rfl⟩;go_wp2_with fail;refine(I.out _ U.out).mono ?_;rintro _ w3 ⟨⟨r3,rfl,o3⟩,k3⟩;have K3:=Lib.hid (U.out.trans k3);have o:=Lib.hid (Jb (O2.out.kp k3) o3.rd);obtain⟨a3,n3,b3,rfl⟩:=bB o3.rd;clear o3 k3 O2 I L u;go_wp2_with fail;refine(J.out _ K3.out).mono ?_;rintro _ _ ⟨rfl,rfl⟩;go_wp2_with fail;refine(H.out _ K3.out).mono ?_;rintro _ w4 ⟨⟨r4,rfl,o4⟩,P⟩;have K4:=Lib.hid (K3.out.trans P);have T:=Lib.hid (Jb (o.out.1.kp P) (Jb (o.out.2.kp P) o4.rd));obtain⟨a4,n4,b4,rfl⟩:=bB o4.rd;clear o4 P o H J;go_wp2_with fail;refine(jO _ Y w4 T.out.2.1).mono ?_;rintro _ w5 ⟨⟨r5,rfl,o5⟩,O⟩;have K5:=Lib.hid (K4.out.trans O);have S:=Lib.hid (Jb (T.out.1.kp O) (Jb o5.rd (T.out.2.2.kp O)));obtain⟨a5,n5,b5,rfl⟩:=bB o5.rd;clear o5 O T;go_wp2_with fail;refine(jO _ V w5 S.out.2.2).mono ?_;rintro _ w6 ⟨⟨r6,rfl,o6⟩,N⟩;have HR:=Lib.hid (RL.row3 w6 24 (S.out.1.kp N) (S.out.2.1.kp N) o6.rd);obtain⟨a6,n6,b6,rfl⟩:=bB o6.rd;have K6:=Lib.hid (K5.out.trans (N.alloc (.cells #[.slice a2 n2 b2,.slice a5 n5 b5,.slice a6 n6 b6] 24)));have ad:=ff (x:=Y) (by have:=G.out;omega);have ab:=ff (x:=V) (by have:=F.out;omega);have M:Hid ([cI m9,aI Y,aI V].flatten.length<=1900/\0<[cI m9,aI Y,aI V].flatten.length):=by
  have h1:=ae.out;have h2:=(jW s.out).2;have h3:=G.out;have h4:=F.out;unfold Hid;simp only[Lh,Mm,Jc,Jt];omega
 clear o6 N S ad ab;go_wp2_with fail;refine(sT 2 _ _ _ HR.out M.out.2 M.out.1 (by simp)).mono ?_;rintro _ w7 ⟨⟨r7,rfl,o7⟩,k7⟩;have KE:=Lib.hid (Jb o7 (K6.out.trans k7));obtain⟨a7,n7,b7,rfl⟩:=bB o7.rd;clear o7 k7 HR;go_wp2_with fail;go_ret;exact⟨⟨_,rfl,KE.out.1.mono K6.out.size⟩,KE.out.2⟩
theorem yJ (t:List Nod)(K:Nat)(hT:bk t K):∀ (j q:Nat) (w:World) (vt vc:Value) (g:List Int),j<=K->NL w vt t->Cnt w vc g->Tab w->q<2 ^ (K - j) ->
  Calls prog 176 #[vt,.int .i64 ((nd j q:Nat):Int),vc] w λe w'=>(∃ r,e=.returned r/\Ow 5 w' w.heap.size r (bQ t g j q))/\Kp w w'
 | 0,q,w,vt,vc,g,_,ht,hc,hTab,hq=>GJ vt vc t g K q w hT ht hc hTab (by simpa using hq)
 | j+1,q,w,vt,vc,g,hj,ht,hc,hTab,hq=>GK t K j hT hj (λq w vt vc g ht hc hTab hq=>yJ t K hT j q w vt vc g (by omega) ht hc hTab hq) q w vt vc g ht hc hTab hq
theorem GM (vt:Value)(t:List Nod)(K j q:Nat)(a:Int)(w:World)(J:bk t K)(S:NL w vt t)(k:Tab w)(U:j+1<=K)(T:q<2 ^ (K - (j+1)))(hs:a=0\/a=1):
  Calls prog 145 #[vt,.int .i64 ((nd (j+1) q:Nat):Int),.int .i64 a] w λe w'=>(∃ r,e=.returned r/\Ow 5 w' w.heap.size r (bF ([3]++aI (ats t (nd (j+1) q)).pub++aI (ats t (nd (j+1) q)).hash++aI (bQ t (ats t (nd (j+1) q)).un j (dX a q)))))/\Kp w w':=by
 obtain⟨x1,x2⟩:=J.lt U T;have ak:=Lib.hid S;obtain⟨b,aj,c,p,aa,h,rfl,n⟩:=S.node x1;obtain⟨c0,c1,c2,c3,c4⟩:=Jb n.kind (Jb n.name (Jb n.pubC (Jb n.unC n.hashC)));have d:=J.node (nd (j+1) q);obtain⟨k1,k2⟩:=qe U T;obtain⟨_,y1,y2⟩:=dW J.le U T;obtain⟨f1,f2,f3⟩:=fD (j:=j) (q:=q) y1 y2;have I:dX a q<2 ^ (K - j):=by unfold dX;split <;> assumption
 have P:Hid (∀ W,Kp w W->Calls prog 177 #[.int .i64 ((nd (j+1) q:Nat):Int),.int .i64 (1 - a)] W λe w'=>e=.returned (.int .i64 ((nd j (dX a q):Nat):Int))/\W=w'):=λW g=>by
  have:=sw ((nd (j+1) q:Nat):Int) (1 - a) W (k.kp g);rcases hs with rfl|rfl
  ·rwa [if_pos (by decide),f3] at this
  ·rwa [if_neg (by decide),f2] at this
 have O:=Lib.hid (λW vc (g:Kp w W) (hc:Cnt W vc (ats t (nd (j+1) q)).un)=>yJ t K J j (dX a q) W _ vc _ (by omega) (S.kp g) hc (k.kp g) I);have Q:=Lib.hid (λW v (hv:RI W v (ats t (nd (j+1) q)).un)=>GG v _ W hv (by have:=d.unl;omega) (λi hi=>by have:=d.un i hi;omega));have l:=Lib.hid (ly t (ats t (nd (j+1) q)).un j (dX a q));have lp:=ff (x:=(ats t (nd (j+1) q)).pub) (by have:=d.pub;omega);have lh:=ff (x:=(ats t (nd (j+1) q)).hash) (by have:=d.hash;omega);have ab:=d.pub;have ad:=d.hash;have i1:IntKind.i64.wrap (1 - a)=1 - a:=IW _ (by omega);have e4:((nd (j+1) q:Nat):Int)<(t.length:Int):=by omega
 have A:=Lib.hid n.2;obtain⟨F,B,D,rfl⟩:=bB n.2.pub;obtain⟨M,H,L,rfl⟩:=n.2.un.sl;obtain⟨G,C,E,rfl⟩:=bB n.2.hash;have ae:Hid ((bF ([3]++aI (ats t (nd (j+1) q)).pub++aI (ats t (nd (j+1) q)).hash++aI (bQ t (ats t (nd (j+1) q)).un j (dX a q))))=bF ([3]++[aI (ats t (nd (j+1) q)).pub,aI (ats t (nd (j+1) q)).hash,aI (bQ t (ats t (nd (j+1) q)).un j (dX a q))].flatten)):=by unfold Hid;simp
 rw[ae.out];generalize bQ t (ats t (nd (j+1) q)).un j (dX a q)=R at *;have lr:=ff (x:=R) (by have:=l.out;omega);have ag:Hid ((aI (ats t (nd (j+1) q)).pub).length<=42/\(aI (ats t (nd (j+1) q)).hash).length<=42/\(aI R).length<=40):=⟨by omega,by omega,by have:=l.out;omega⟩;have z:0<(aI R).length:=by
  unfold aI;rw[if_pos (by unfold iy eL;rw[l.out];decide)];rw[Jc,l.out];omega
 have af:=Lib.hid z;clear J S k n T k1 k2 y1 y2 f1 f2 f3 U I d lp lh ab ad lr z l;generalize nd j (dX a q)=XO at *;generalize nd (j+1) q=X at *;generalize t.length=TL at *;generalize ats t X=m at *;clear hs;obtain⟨o,s⟩:∃ o,w.alloc (.cells #[.int .i64 m.kind,.int .i64 m.name,.slice F B D,.slice M H L,.slice G C E] 81)=o:=⟨_,rfl⟩;have y:Hid (Bx o w.heap.size 81 #[.int .i64 m.kind,.int .i64 m.name,.slice F B D,.slice M H L,.slice G C E]):=by rw[<-s];exact Bx.new _ _ _
 have f:Hid (Kp w o):=by rw[<-s];exact(Kp.refl _).alloc _
 have N:=Lib.hid s;clear s;go_enter func145,ntmps145;go_wp2_with fail;rw[N.out];have u:Hid (∀ W,Kp o W->W.cell? ⟨w.heap.size,2,none⟩=some (.slice F B D)/\W.cell? ⟨w.heap.size,3,none⟩=some (.slice M H L)/\W.cell? ⟨w.heap.size,4,none⟩=some (.slice G C E)):=λW g=>⟨(y.out.kp g).cell 2,(y.out.kp g).cell 3,(y.out.kp g).cell 4⟩
 have V:Hid (Kp o o.drew):=Kp.drew (Kp.refl o);have bK:=Lib.hid (u.out _ V.out);clear y N c0 c1 c2 c3 c4;go_region_held3 (λW=>W.cell? ⟨w.heap.size,2,none⟩=some (.slice F B D)/\W.cell? ⟨w.heap.size,3,none⟩=some (.slice M H L)/\W.cell? ⟨w.heap.size,4,none⟩=some (.slice G C E))
  (first|with_reducible exact bK.out|with_reducible exact S3.out|with_reducible exact S4.out)
  (first
   | (go_at_call 176;refine(O.out _ _ (f.out.trans K3.out) o3).mono ?_;rintro _ w4 ⟨⟨r4,rfl,o4⟩,k4⟩;obtain⟨a4,n4,b4,rfl⟩:=bB o4.rd;have Z:=Lib.hid (K3.out.trans k4);have S4:=Lib.hid (u.out _ Z.out))
   | (go_at_call 178;refine(Q.out _ _ (A.out.un.kp (f.out.trans V.out))).mono ?_;rintro _ w3 ⟨⟨r3,rfl,o3⟩,k3⟩;obtain⟨cb,rfl,_⟩:=o3.call;have K3:=Lib.hid (V.out.trans k3);have S3:=Lib.hid (u.out _ K3.out))
   | (go_at_call 177;refine(P.out _ (f.out.trans V.out)).mono ?_;rintro _ _ ⟨rfl,rfl⟩))
 have HP:Hid (∀ W,Kp o W->Calls prog 180 #[.slice F B D] W λe w'=>(∃ r,e=.returned r/\Ow 5 w' W.heap.size r (aI m.pub))/\Kp W w'):=λW g=>jO _ m.pub W (A.out.pub.kp (f.out.trans g))
 have HH:Hid (∀ W,Kp o W->Calls prog 180 #[.slice G C E] W λe w'=>(∃ r,e=.returned r/\Ow 5 w' W.heap.size r (aI m.hash))/\Kp W w'):=λW g=>jO _ m.hash W (A.out.hash.kp (f.out.trans g))
 have O4:=Lib.hid o4.rd;have D4:Hid (Kp w4 w4.drew):=Kp.drew (Kp.refl w4);have S5:=Lib.hid (u.out _ (Z.out.trans D4.out));clear bK S3 S4 O Q P o3 o4 k3 k4 K3;go_wp2_with fail;go_region_held3 (λW=>W.cell? ⟨w.heap.size,2,none⟩=some (.slice F B D)/\W.cell? ⟨w.heap.size,3,none⟩=some (.slice M H L)/\W.cell? ⟨w.heap.size,4,none⟩=some (.slice G C E))
  (first|with_reducible exact S5.out|with_reducible exact S6.out|with_reducible exact S7.out|with_reducible exact S8.out|with_reducible exact S9.out|with_reducible exact u.out _ (Y.out.alloc _))
  (first
   | (go_at_call 179;refine(sT 3 _ [aI m.pub,aI m.hash,aI R] _ (RL.row3 w8 24 (o6.rd.kp D8.out.1) (o7.rd.kp D8.out.2) o8.rd) (by have:=af.out;simp only[Lh,Mm,Jc,Jt];omega) (by have:=ag.out;simp only[Lh,Mm,Jc,Jt];omega) (by simp)).mono ?_;rintro _ w9 ⟨⟨r9,rfl,o9⟩,k9⟩;obtain⟨a9,n9,b9,rfl⟩:=bB o9.rd;have K9:=Lib.hid ((Y.out.alloc _).trans k9);have S9:=Lib.hid (u.out _ K9.out))
   | (go_at_call 180;refine(jO _ R _ (O4.out.kp D7.out)).mono ?_;rintro _ w8 ⟨⟨r8,rfl,o8⟩,k8⟩;obtain⟨a8,n8,b8,rfl⟩:=bB o8.rd;have Y:=Lib.hid (K7.out.trans k8);have S8:=Lib.hid (u.out _ Y.out);have D8:=Lib.hid (Jb (ai.out.trans k8) k8))
   | (go_at_call 180;refine(HH.out _ K6.out).mono ?_;rintro _ w7 ⟨⟨r7,rfl,o7⟩,k7⟩;obtain⟨a7,n7,b7,rfl⟩:=bB o7.rd;have K7:=Lib.hid (K6.out.trans k7);have S7:=Lib.hid (u.out _ K7.out);have D7:=Lib.hid (D6.out.trans k7);have ai:=Lib.hid k7)
   | (go_at_call 180;refine(HP.out _ (Z.out.trans D4.out)).mono ?_;rintro _ w6 ⟨⟨r6,rfl,o6⟩,k6⟩;obtain⟨a6,n6,b6,rfl⟩:=bB o6.rd;have K6:=Lib.hid ((Z.out.trans D4.out).trans k6);have S6:=Lib.hid (u.out _ K6.out);have D6:=Lib.hid (D4.out.trans k6)))
 have KE:=Lib.hid (Jb o9 (Jb Y.out K9.out));clear S5 S6 S7 S8 S9 HP HH o6 o7 o8 o9 k9;go_wp2_with fail;go_ret;exact⟨⟨_,rfl,KE.out.1.mono (Js (f.out.trans KE.out.2.1).size (by simp))⟩,f.out.trans KE.out.2.2⟩
theorem GN (d:Value)(t:List Nod)(K X:Nat)(a:Int)(w:World)(c:bk t K)(i:NL w d t)(b:Tab w)(n:X<t.length)(g:(ats t X).kind=2)(l:a=0\/a=1):
  Calls prog 145 #[d,.int .i64 (X:Int),.int .i64 a] w λe w'=>(∃ r,e=.returned r/\Ow 5 w' w.heap.size r (dY t (X:Int) a))/\Kp w w':=by
 have o:gA t (X:Int) a=0:=by
  unfold gA
  rw[if_pos ⟨by omega,by omega,by omega,by omega⟩,Jm,if_pos g]
 have m:=c.par X g
 obtain⟨j,q,rfl,h,f⟩:=c.at n
 cases j with
 | zero=>rw[fa] at m;omega
 | succ j=>
  have e:dY t ((nd (j+1) q:Nat):Int) a=bF ([3]++aI (ats t (nd (j+1) q)).pub++aI (ats t (nd (j+1) q)).hash++aI (bQ t (ats t (nd (j+1) q)).un j (dX a q))):=by
   have k:=dW c.le h f
   unfold dY
   rw[if_pos o,Jm]
   unfold oT
   rw[gg (j+1) q (by omega),jR (j+1) q (by omega),KP]
  rw[e]
  exact GM d t K j q a w c i b h f l
theorem yK (u:Value)(t:List Nod)(w:World)(hu:NL w u t)(h0:0<t.length)(hl:t.length<=100000)(hb:∀ i,i<t.length->(ats t i).pub.length<=1000/\(ats t i).un.length<=100000/\(ats t i).hash.length<=1000):
  Calls prog 141 #[u] w λe w'=>(∃ v P U H,e=.returned v/\NX 81 3 w' w.heap.size v t P U H (λ_=>True))/\Kp w w':=by
 have HC:=Lib.hid (yn u t w hu h0 (by omega));have am:=Lib.hid (fun(v:Value) (l:List UInt8) (W:World) (h:Rd W v l) (hl:l.length<=1000)=>rj v l W h (by omega));have au:=Lib.hid (fun(v:Value) (l:List Int) (W:World) (h:RI W v l) (hl:l.length<=100000)=>FF v l W h (by omega));have HU:=Lib.hid hu;obtain⟨a,c,rfl,p1,s1⟩:=hu.shape;have HB:=Lib.hid hb;have aq:=Lib.hid (λi s=>DS t i s);obtain⟨N,hN⟩:∃ N,t.length=N:=⟨_,rfl⟩;have B:=Lib.hid hN;rw[hN] at HC HU HB h0 hl p1 ⊢;have aw:(N:Int)<=100000:=by omega
 have aA:=Lib.hid (Jb p1 s1);clear hu hb hN hl p1 s1;go_enter func141,ntmps141;go_wp2_with fail;refine HC.out.mono ?_;rintro _ w1 ⟨⟨v1,us,rfl,r1,r2,r3⟩,k1⟩;obtain⟨P,U,H,r4⟩:=DQ (R:=λi p u h=>(∀ f,f<5->us[i*5+f]?=(bT (ats t i) p u h)[f]?)/\NIn w (ats t i) p u h) r3;obtain⟨g,S,rfl,D,ae⟩:∃ g S,v1=.slice (some ⟨g,0,none⟩) N S/\w.heap.size<=g/\g<w1.heap.size/\N<=S:=by
  rcases id r1.2 with⟨_,e⟩|⟨g,cap,cur,e,e1,e2,e3,_⟩
  ·omega
  ·exact⟨g,cap,e,e1,(IX.1 e2).1,e3⟩
 have Q:Hid (∃ P U H,NX 81 3 w1 w.heap.size (.slice (some ⟨g,0,none⟩) N S) t P U H (λj=>j<0)):=by
  refine⟨P,U,H,⟨us,by rw[B.out];exact r1,r2,λi s=>?_⟩,λi s=>?_,λi s=>?_,λi s hs=>absurd hs (Lk _),λi s hs=>absurd hs (Lk _),λi j s hj hs=>absurd hs (Lk _)⟩
  ·rw[B.out] at s;exact(r4 i s).1
  ·rw[B.out] at s;exact(r4 i s).2.kp k1
  ·rw[B.out] at s
   have h4:=(r4 i s).2;exact⟨h4.pub.apart (λg' E=>by cases E;exact D),h4.un.apart (λg' E=>by cases E;exact D),h4.hash.apart (λg' E=>by cases E;exact D)⟩
 have ar:=Lib.hid k1;have HG:=Lib.hid (Jb D ae.1);have ay:=ae.2;clear r1 r2 r3 r4 k1 HC D ae P U H us;go_wp2_with fail;go_loopw[10] (λx wr=>∃ k:Nat,k<=N/\x=.int .i64 (k:Int)/\(∃ P U H,NX 81 3 wr w.heap.size (.slice (some ⟨g,0,none⟩) N S) t P U H (λj=>j<k))/\Kp w wr/\g<wr.heap.size) (λx _=>(N - (intOf x).toNat))
 case atStart=>exact⟨0,Jl _,rfl,Q.out,ar.out,HG.out.2⟩
 case round=>
  obtain⟨k,hk,rfl,⟨P,U,H,hx⟩,C,ad⟩:=hrel;by_cases m:k<N
  ·obtain⟨b,av,rfl,_,ah⟩:=HU.out.at k m
   obtain⟨p,q,h,hn⟩:=ah k m;have d:=hn.kp C;have d0:=d.kind;have d1:=d.name;have d2:=d.pubC;have d3:=d.unC;have d4:=d.hashC;obtain⟨b1,b2,b3⟩:=HB.out k m;have af:=Lib.hid hn.2;have ag:=Lib.hid (Jb b1 (Jb b2 b3));obtain⟨xp,np,M,rfl⟩:=az d.2.pub;obtain⟨xq,nq,L,rfl⟩:=d.2.un.sl;obtain⟨xh,nh,O,rfl⟩:=az d.2.hash;have HX:=Lib.hid hx;have n:=Lib.hid (Jb C ad);have i1:IntKind.i64.wrap ((k:Int)+1)=(k:Int)+1:=IW _ (by omega);have i2:(k:Int)<(N:Int):=by omega
   clear ah hn d hx C ad b1 b2 b3;go_wp2_with fail;refine(am.out (.slice xp np M) _ _ (af.out.pub.kp (n.out.1.alloc _)) ag.out.1).mono ?_;rintro _ w3 ⟨p',rfl,o3,k3⟩;have J:Hid (∃ P U H,NX 81 3 (w3.setCells g (k*5+2) [p']) w.heap.size (.slice (some ⟨g,0,none⟩) N S) t P U H (λj=>j<k)):=⟨_,_,_,
    HX.out.clonePub (((Kp.refl wr).alloc _).trans k3) (by rw[B.out];exact m) (Nat.lt_irrefl k) o3 (by simp) n.out.2⟩
   have V:Hid (w3.there g (k*5+2) 1):=(HX.out.kp (((Kp.refl wr).alloc _).trans k3)).there k (by rw[B.out];exact m) 2 (by omega);have y:=(Bx.new wr 81 #[.int .i64 (ats t k).kind,.int .i64 (ats t k).name,.slice xp np M,.slice xq nq L,.slice xh nh O]).kp k3;have r:Hid (Bx (w3.setCells g (k*5+2) [p']) wr.heap.size 81 #[.int .i64 (ats t k).kind,.int .i64 (ats t k).name,.slice xp np M,.slice xq nq L,.slice xh nh O]):=y.grown (fF w3 g 0 _ _) (λe=>by have:=n.out.2;simp at e;omega);have o:Hid (Kp w (w3.setCells g (k*5+2) [p'])):=(n.out.1.trans (((Kp.refl wr).alloc _).trans k3)).setCells HG.out.1 _ _;have G:Hid (wr.heap.size<(w3.setCells g (k*5+2) [p']).heap.size):=Jh (IX.1 y).1 (fF w3 g 0 _ _).size;obtain⟨yp,mp,ao,rfl⟩:=az o3.rd;clear o3 k3 y;go_wp2_with(refine kt rfl rfl 24 (.tmp 21) (.tmp 19) rfl g (k*5+2) (.slice yp mp ao) rfl rfl rfl V.out wZ ?_;intro W4 ak;rw[<-ak] at J r o G;have c3:=r.out.cell 3;have c4:=r.out.cell 4;clear ak)
   refine(au.out (.slice xq nq L) _ W4 (af.out.un.kp o.out) ag.out.2.1).mono ?_;rintro _ w5 ⟨u',rfl,o5,k5⟩;obtain⟨P1,U1,H1,ab⟩:=J.out;have A:g<W4.heap.size:=Nat.lt_trans n.out.2 G.out;have I:Hid (∃ P U H,NX 81 3 (w5.setCells g (k*5+3) [u']) w.heap.size (.slice (some ⟨g,0,none⟩) N S) t P U H (λj=>j<k+1)):=⟨_,_,_,ab.cloneUn k5 (by rw[B.out];exact m) (λj hj ax=>by omega) o5 (Ja _) A o.out.size⟩;have T:Hid (w5.there g (k*5+3) 1):=(ab.kp k5).there k (by rw[B.out];exact m) 3 (by omega);have y:=r.out.kp k5;have K:Hid (Bx (w5.setCells g (k*5+3) [u']) wr.heap.size 81 #[.int .i64 (ats t k).kind,.int .i64 (ats t k).name,.slice xp np M,.slice xq nq L,.slice xh nh O]):=y.grown (fF w5 g 0 _ _) (λe=>by have:=n.out.2;simp at e;omega);have z:Hid (Kp w (w5.setCells g (k*5+3) [u'])):=(o.out.trans k5).setCells HG.out.1 _ _;have F:Hid (wr.heap.size<(w5.setCells g (k*5+3) [u']).heap.size):=Jh (IX.1 y).1 (fF w5 g 0 _ _).size;obtain⟨yq,mq,an,rfl⟩:=o5.ri.sl;clear o5 k5 y ab A J r o G V c3 c4;go_wp2_with(refine kt rfl rfl 34 (.tmp 28) (.tmp 26) rfl g (k*5+3) (.slice yq mq an) rfl rfl rfl T.out xg ?_;intro W6 aj;rw[<-aj] at I K z F;have c4:=K.out.cell 4;clear aj)
   refine(am.out (.slice xh nh O) _ W6 (af.out.hash.kp z.out) ag.out.2.2).mono ?_;rintro _ w7 ⟨h',rfl,o7,k7⟩;obtain⟨P2,U2,H2,aa⟩:=I.out;have A:g<W6.heap.size:=Nat.lt_trans n.out.2 F.out;have Y:Hid (∃ P U H,NX 81 3 (w7.setCells g (k*5+4) [h']) w.heap.size (.slice (some ⟨g,0,none⟩) N S) t P U H (λj=>j<k+1)):=⟨_,_,_,aa.cloneHash k7 (by rw[B.out];exact m) o7 (Ja _) A⟩;have al:Hid (w7.there g (k*5+4) 1):=(aa.kp k7).there k (by rw[B.out];exact m) 4 (by omega);have Z:Hid (Kp w (w7.setCells g (k*5+4) [h'])):=(z.out.trans k7).setCells HG.out.1 _ _;have X:Hid (g<(w7.setCells g (k*5+4) [h']).heap.size):=Jh A (Js k7.size (fF w7 g 0 _ _).size);obtain⟨yh,mh,ap,rfl⟩:=az o7.rd;clear o7 k7 aa A I K z F T c4;go_wp2_with(refine kt rfl rfl 24 (.tmp 35) (.tmp 33) rfl g (k*5+4) (.slice yh mh ap) rfl rfl rfl al.out wZ ?_;intro W8 ai;rw[<-ai] at Y Z X;clear ai)
   go_roundw
   case rel=>exact⟨k+1,by omega,by go_num,Y.out,Z.out,X.out⟩
   case measure=>simp[intOf];omega
  ·obtain rfl:k=N:=by omega
   have HX:=Lib.hid hx;have n:=Lib.hid C;have i2:¬(k:Int)<(k:Int):=by omega
   have aB:=Lib.hid B.out;clear hx C ad;go_wp2_with fail;go_ret;exact⟨⟨_,rfl,P,U,H,HX.out.weak (λi s _=>by rw[B.out] at s;exact s)⟩,n.out⟩
