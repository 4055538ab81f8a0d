import Derived.Test.YthmhklmkgkfcpaaGreatDoorW29
import Derived.Lib.SlKeysI
import Derived.Shelf.SlIterI.Nil
import Derived.Ground.GgzProg
set_option linter.all false
set_option maxHeartbeats 8000000
set_option maxRecDepth 100000
namespace Go.Proofs.YthmhklmkgkfcpaaGreatDoor
open Go.Proofs.Tryz Go.RowKit
variable {A c w w0:World}{P:Program}{S:Sd->Prop}{Y:Nat->Prop}{a d i j m n:Nat}{k:TypeId}{s:List UInt8}{v:Value}
section
open Go.Maps Go.Sort
open Classical in
noncomputable def kH (S:Sd->Prop) (x:Int):Sd:=if h:∃ s,S s/\s.node=x then Classical.choose h else ⟨0,[]⟩
theorem GW {x:Int}(h:∃ s,S s/\s.node=x):S (kH S x)/\(kH S x).node=x:=by
 unfold kH;rw[dif_pos h];exact Classical.choose_spec h
theorem GX {D:DataW Value}(h:w.ownsMap P k eA m n D)(K:Keyed P k)(B:P.underlying k=some (.int .i64)):
  (intKeys D).Nodup/\∀ x,x∈intKeys D↔Maps.has D (.int .i64 x)=true:=by
 obtain⟨i,u,l,_⟩:=h.entries K;obtain⟨s,g,r⟩:=h.keysOf;obtain rfl:i=s:=by rw[u] at g;simpa using g
 subst u;have d:∀ p∈i,∃ x,p.1=.int .i64 x:=λp A=>by
  obtain⟨v,z⟩:=r p A;obtain⟨x,_,y,_⟩:=Maps.keyOf_i64 B z;exact⟨x,y⟩
 refine⟨?_,λx=>?_⟩
 ·show(i.map λp=>Go.intOf p.1).Nodup
  refine Mf.2 (l.imp_of_mem λ{p q} c j o e=>o ?_);obtain⟨a,f⟩:=d p c;obtain⟨b,C⟩:=d q j;rw[f,C] at e ⊢;exact congrArg _ e
 ·rw[has_eq,MF]
  show x∈i.map (λp=>Go.intOf p.1)↔_
  rw[JO];constructor
  ·rintro⟨p,c,rfl⟩
   obtain⟨a,f⟩:=d p c;exact⟨p,c,by rw[f];simp[Lit.sameKey,Go.intOf]⟩
  ·rintro⟨p,c,t⟩
   obtain⟨a,f⟩:=d p c;rw[f] at t;exact⟨p,c,by rw[f];simpa [Lit.sameKey,Go.intOf] using t⟩
theorem KM.keys (h:KM P k w m n S)(K:Keyed P k)(H:P.underlying k=some (.int .i64)):
  ∃ D,w.ownsMap P k eA m n D/\Maps.size D<=n/\∀ e:List Int,e.Perm (intKeys D)->∃ l:List Sd,srt l/\(∀ y,y∈l↔S y)/\l.map (λs=>s.node)=e.mergeSort (λx y=>decide (x<=y))/\l.length=Maps.size D:=by
 obtain⟨⟨D,j,o,O⟩,N⟩:=h;obtain⟨Q,C⟩:=GX j K H;have t:(intKeys D).length=Maps.size D:=by
  obtain⟨R,M,_,_⟩:=j.entries K;subst M;show(R.map λp=>Go.intOf p.1).length=_
  rw[JI];rfl
 refine⟨D,j,j.size_le,λe G=>?_⟩;have v:(e.mergeSort (λx y=>decide (x<=y))).Perm e:=List.mergeSort_perm e _;have E:∀ a b c:Int,leI a b=true->leI b c=true->leI a c=true:=λa b c j o=>by simp only[leI,decide_eq_true_eq] at *;exact Int.le_trans j o
 have F:∀ a b:Int,(leI a b || leI b a)=true:=λa b=>by simp only[leI,MO,decide_eq_true_eq];exact Int.le_total a b
 have u:(e.mergeSort leI).Pairwise λa b=>leI a b=true:=List.pairwise_mergeSort E F e
 generalize T:e.mergeSort (λx y=>decide (x<=y))=L at *;have q:L.Pairwise λa b=>a<=b:=u.imp λ{a b} h=>by simpa [leI] using h
 have f:L.Perm (intKeys D):=v.trans G;have z:L.Nodup:=f.nodup_iff.2 Q;have A:L.Pairwise λa b=>a<b:=(List.Pairwise.and q z).imp λ{a b} h=>by
  obtain⟨j,o⟩:=h;have O:a≠b:=o;omega
 have d:∀ x∈L,S (kH S x)/\(kH S x).node=x:=λx i=>GW ((o x).1 ((C x).1 (f.subset i)))
 have r:(L.map (kH S)).map (λs=>s.node)=L:=by
  rw[List.map_map];refine(Mo (g:=id) λx i=>(d x i).2).trans (List.map_id _)
 refine⟨L.map (kH S),?_,λy=>?_,r,by rw[JI,f.length_eq,t]⟩
 ·unfold srt
  refine Mf.2 (A.imp_of_mem λ{a b} J I h=>?_);rw[(d a J).2,(d b I).2];exact h
 ·rw[JO]
  constructor
  ·rintro⟨x,i,rfl⟩
   exact(d x i).1
  ·intro B
   have i:y.node∈L:=f.symm.subset ((C _).2 ((o _).2 ⟨y,B,rfl⟩));obtain⟨a,b⟩:=d _ i;exact⟨y.node,i,N _ _ a B b⟩
end
end Go.Proofs.YthmhklmkgkfcpaaGreatDoor
namespace Go.Proofs
open Go.Shelf
def Tryz.keysA_ren:Go.Shelf.Ren:=⟨fun|7=>108|10=>149|n=>n,fun|23=>103|26=>3|3=>90|28=>164|0=>0|27=>163|33=>139|4=>4|n=>n,fun|n=>n⟩
theorem Tryz.keysA:Go.Proofs.SlLaysZI.n7 Tryz.prog Tryz.keysA_ren:={
 mixed:=by kernel_rfl
 f7:=⟨Tryz.f108.name,by decide,Tryz.func108.trans (congrArg some (by kernel_rfl))⟩
 f10:=⟨Tryz.f149.name,by decide,Tryz.func149.trans (congrArg some (by kernel_rfl))⟩
 t0:=Tryz.underlying0
 a0:=Tryz.isAgg0
 z0:=Tryz.sizeOf0
 v0:=Tryz.zeroValue0
 t4:=Tryz.underlying4
 a4:=Tryz.isAgg4
 z4:=Tryz.sizeOf4
 v4:=Tryz.zeroValue4
 t23:=Tryz.underlying103
 a23:=Tryz.isAgg103
 z23:=Tryz.sizeOf103
 v23:=Tryz.zeroValue103
 t26:=Tryz.underlying3
 a26:=Tryz.isAgg3
 z26:=Tryz.sizeOf3
 v26:=Tryz.zeroValue3
 t27:=Tryz.underlying163
 a27:=Tryz.isAgg163
 z27:=Tryz.sizeOf163
 v27:=Tryz.zeroValue163
 t28:=Tryz.underlying164
 a28:=Tryz.isAgg164
 z28:=Tryz.sizeOf164
 v28:=Tryz.zeroValue164
 t33:=Tryz.underlying139
 a33:=Tryz.isAgg139
 z33:=Tryz.sizeOf139
 v33:=Tryz.zeroValue139 }
def Tryz.sortedA_ren:Go.Shelf.Ren:=⟨fun|6=>107|8=>147|9=>148|11=>181|13=>183|12=>182|23=>221|24=>222|14=>212|15=>213|16=>214|17=>215|18=>216|19=>217|20=>218|21=>219|22=>220|25=>251|26=>252|27=>253|28=>254|29=>255|30=>256|31=>269|n=>n,fun|26=>3|28=>164|24=>34|0=>0|3=>3|37=>205|48=>247|50=>249|4=>4|40=>241|39=>240|45=>143|5=>5|9=>9|51=>270|55=>274|57=>288|58=>69|33=>139|n=>n,fun|n=>n⟩
theorem Tryz.sortedA:Go.Proofs.SlLaysZI.n6 Tryz.prog Tryz.sortedA_ren:={
 mixed:=by kernel_rfl
 f6:=⟨Tryz.f107.name,by decide,Tryz.func107.trans (congrArg some (by kernel_rfl))⟩
 f8:=⟨Tryz.f147.name,by decide,Tryz.func147.trans (congrArg some (by kernel_rfl))⟩
 f11:=⟨Tryz.f181.name,by decide,Tryz.func181.trans (congrArg some (by kernel_rfl))⟩
 t0:=Tryz.underlying0
 a0:=Tryz.isAgg0
 z0:=Tryz.sizeOf0
 v0:=Tryz.zeroValue0
 t24:=Tryz.underlying34
 a24:=Tryz.isAgg34
 z24:=Tryz.sizeOf34
 v24:=Tryz.zeroValue34
 t26:=Tryz.underlying3
 a26:=Tryz.isAgg3
 z26:=Tryz.sizeOf3
 v26:=Tryz.zeroValue3
 t28:=Tryz.underlying164
 a28:=Tryz.isAgg164
 z28:=Tryz.sizeOf164
 v28:=Tryz.zeroValue164
 i26:=by kernel_rfl }
end Go.Proofs
namespace Go.Proofs.YthmhklmkgkfcpaaGreatDoor
open Go.Proofs.Tryz Go.RowKit
variable {A c w w0:World}{P:Program}{S:Sd->Prop}{Y:Nat->Prop}{a d i j m n:Nat}{k:TypeId}{s:List UInt8}{v:Value}
section
open Go.Maps Go.Shelf Go.Sort
theorem Hc (m:Nat):AnyZI.SortsIn prog sortedA_ren Fence.wide m:=
 ⟨λe c a f W g b d=>callsIn_wide.2 (slices_Sort_int e c a f W g b d),
  λp a W=>callsIn_wide.2 (slices_Sort_int_none p a W)⟩
theorem Hd (m:Nat)(W:World):Calls prog 108 #[.map (some m)] W λe w'=>e=.returned (.func (.func 149) #[] #[.pointer (some ⟨W.heap.size,0,none⟩)])/\w'=W.alloc (.cells #[.map (some m)] 103):=
 callsIn_wide.1 (AnyZI.keys_in keysA Fence.wide 5 trivial rfl (some m) W)
theorem He (w:World)(h:KM prog 3 w m n S)(J:n<=1000000):
  Calls prog 107 #[.func (.func 149) #[] #[.pointer (some ⟨w.heap.size,0,none⟩)]] (w.alloc (.cells #[.map (some m)] 103)) λe w'=>
   (∃ v l,e=.returned v/\srt l/\(∀ y,y∈l↔S y)/\l.length<=n/\OI 3 w' w.heap.size v (l.map (λs=>s.node)))/\Kp w w':=by
 obtain⟨D,p,K,C⟩:=h.keys fO underlying3;have f:=p.lt;have c:SeqGives Fence.wide 2 prog 149 #[.pointer (some ⟨w.heap.size,0,none⟩)] encZ (λd=>d.Perm (intKeys D)) (Maps.size D) (w.alloc (.cells #[.map (some m)] 103)):=
  AnyZI.keys_gives (ρ:=keysA_ren) { keysA with } Fence.wide _ trivial rfl (by omega) w.heap.size m n D _ (by simp) (by simp) (by
   obtain⟨E,b,i,H,x,B⟩:=p;exact⟨E,b,(Below.heap_alloc _ _ m f).trans i,H,x,B⟩)
 have q:=AnyZI.sorted_in sortedA Fence.wide 5 trivial trivial trivial trivial rfl (by omega) (Hc _) (enters_of func148 (by kernel_rfl) rfl) 149 #[.pointer (some ⟨w.heap.size,0,none⟩)] trivial (enters_of func149 (by kernel_rfl) rfl) _ _ (by unfold maxLen;omega) (by omega) _ c;change CallsIn _ _ prog 107 _ _ _ at q;refine(callsIn_wide.1 q).mono ?_;rintro e w' ⟨v,d,rfl,A,a,_,i⟩;obtain⟨l,t,r,o,I⟩:=C d A;have u:Kp w w':=((Kp.refl w).alloc _).trans i;refine⟨⟨v,l,rfl,t,r,by omega,?_⟩,u⟩;have z:(l.map (λs=>s.node)).length=d.length:=by rw[o,List.length_mergeSort]
 unfold OI;rw[JI,z,o];exact⟨a.1,a.2.imp id fun⟨g,k,j,G,F,rest⟩=>⟨g,k,j,G,by rw[Jn] at F;omega,rest⟩⟩
end
section
open Go.Maps
theorem qg (x:Int)(a:Option Addr)(n c:Nat)(w:World):(Instr.field 90 (.agg #[.int .i64 x,.slice a n c]) 1).run prog w=.ok (.slice a n c) w:=by kernel_rfl
theorem Hf {l:List Sd}{k:Nat}(h:k<l.length):l.take (k+1)=l.take k++[aO l k]:=by
 rw[Jp h,<-fl h]
theorem yN (w:World)(h:KM prog 3 w m n S)(hn:n<=100000)(A:∀ s,S s->-9223372036854775808<=s.node/\s.node<=9223372036854775807)(B:∀ s,S s->s.seed.length<=2000):
  Calls prog 61 #[.map (some m)] w λe w'=>(∃ v l,e=.returned v/\srt l/\(∀ y,y∈l↔S y)/\GZ bY 90 (λg=>g<w.heap.size) w' w.heap.size v l)/\Kp w w':=by
 have HK:=Lib.hid (λW=>Hd m W);have J:=Lib.hid (He w h (by omega));have HM:=Lib.hid h;have aj:=Lib.hid (λW (v:Value) (l:List UInt8) (hv:Rd W v l) (hl:l.length<=2000)=>rj v l W hv (by omega));have H:=Lib.hid A;have K:=Lib.hid B;clear h A B;go_enter func61,ntmps61;go_wp2_with fail;refine(HK.out w).mono ?_;rintro _ _ ⟨rfl,rfl⟩;go_wp2_with fail;refine J.out.mono ?_;rintro _ p ⟨⟨v1,l,rfl,hs,b,aa,Y⟩,k1⟩;obtain⟨a1,c1,rfl,p1,s1⟩:=Y.ri.shape;rw[JI] at *;have z:=Lib.hid (Jb Y k1);have L:=Lib.hid b;have HS:=Lib.hid hs;obtain⟨N,hN⟩:∃ N,l.length=N:=⟨_,rfl⟩;have d:=Lib.hid (λk (h:k<l.length)=>Hf h);have I:Hid (l.take l.length=l):=JM;have f:Hid (∀ k,k<l.length->S (aO l k)/\(l.map (λs=>s.node)).getD k 0=(aO l k).node):=λk F=>⟨(b _).1 (nO F),by
  rw[IU,JQ,IV F,fl F];rfl⟩
 rw[hN] at d I f aa p1 z ⊢;clear Y k1 b hs hN J HK;go_wp2_with fail;go_loopw[3,10] (λx y wr=>∃ j:Nat,j<=N/\y=.int .i64 (j:Int)/\GZ bY 90 (λg=>g<p.heap.size) wr p.heap.size x (l.take j)/\Kp p wr) (λ_ y _=>(N - (intOf y).toNat))
 case atStart=>exact⟨0,Jl _,rfl,by rw[Lq];exact GZ.nil _ _ _,Kp.refl _⟩
 case round=>
  obtain⟨j,hj,rfl,a,D⟩:=hrel;have i:=Lib.hid (Jb a D);obtain⟨ax,nx,cx,rfl⟩:=SE.sl a.gl;clear a D;by_cases c:j<N
  ·obtain⟨gq,oq,rfl,_,G⟩:=(z.out.1.ri.kp i.out.2).at j c
   have c0:=G j c;obtain⟨U,T⟩:=f.out j c;rw[T] at c0;have ae:=Lib.hid (d.out j c);obtain⟨Q,P⟩:=H.out _ U;have r:=Lib.hid (K.out _ U);obtain⟨u,O⟩:Sd:=aO l j;generalize ab:aO l j=SD at *;obtain⟨u,O⟩:=SD;dsimp only at c0 Q P r T
   have E:Go.keyOf prog 3 (.int .i64 u)=some (.int .i64 u):=keyOf_int_mk underlying3 (Ln (by omega));have i1:IntKind.i64.wrap ((j:Int)+1)=(j:Int)+1:=IW _ (by omega);have i3:(j:Int)<(N:Int):=by omega
   have af:Hid (KM prog 3 wr m n S):=HM.out.kp (z.out.2.trans i.out.2);have zs:=kN wr;have ak:=qg u;have ad:Hid ((l.take j).length+1<=1000000):=by unfold Hid;rw[Jv];omega
   generalize l.take j=TK at *;clear G d f H K ab T;go_wp2_with(at_lookup;go_loud (refine DP (e:=90) rfl _ _ 103 rfl fO underlying103 zs rfl af.out ⟨u,O⟩ U rfl E ?_;intro q X;obtain⟨aq,nq,al,rfl⟩:=az X;dsimp only [sdV]))
   refine(aj.out wr _ O X r.out).mono ?_;rintro _ w5 ⟨vB,rfl,M,V⟩;obtain⟨aB,nB,cB,rfl⟩:=az M.rd;have ag:Hid (∀ g,(Value.slice ax nx cx).ownBlock=some g->g<wr.heap.size):=λg t=>(i.out.1.lt g t).2
   have ai:Hid (bY.R (λg=>some g=(Value.slice ax nx cx).ownBlock\/g<p.heap.size) w5 [.int .i64 u,.slice aB nB cB] ⟨u,O⟩):=
    ⟨_,rfl,M.rd,cO (C:=wr.heap.size) (λg t=>(JP M g t).1) λg t=>t.elim (λh=>ag.out g h.symm) λh=>by have:=i.out.2.size;omega⟩
   have ah:=Lib.hid (i.out.1.kp V);have KB:=Lib.hid (i.out.2.trans V);clear X M V zs c0;go_wp2_with(at_builtin;go_loud (refine fq (S:=bY) (Z:=λg=>g<p.heap.size) (o:=⟨some 23,_,_,_,_,_⟩) sdK rfl _ _ rfl p.heap.size _ TK rfl (ah.out.kp ((Kp.refl _).alloc _)) _ [_] rfl (SE.litZ (S:=bY) 90 ai.out rfl) (by exact ad.out) (Js KB.out.size (by simp)) ?_;intro vF wh oh gh _;have kF:Hid (Kp p wh):=Kp.grown (KB.out.alloc _) gh (λk F=>(i.out.1.lt k F).1)))
   rw[<-ae.out] at oh;go_roundw
   case rel=>exact⟨j+1,by omega,by first|rfl|(rw[i1];rfl),oh,kF.out⟩
   case measure=>simp[intOf];omega
  ·obtain rfl:j=N:=by omega
   have h1:¬(j:Int)<(j:Int):=by omega
   have a:=i.out.1;rw[I.out] at a;have HF:=Lib.hid (Jb ((a.solidly λg t=>.inr (.inl (show g<p.heap.size from Jh t z.out.2.size))).mono z.out.2.size) (z.out.2.trans i.out.2));clear a d f;go_wp2_with fail;go_ret;exact⟨⟨_,rfl,l,HS.out,L.out,HF.out.1⟩,HF.out.2⟩
end
section
open Go.Shelf
attribute [local go_sem] Oper.semAt_some
section
variable {α : Type} {S : Sh α} {Z : Nat -> Prop} {P : Program} {w : World} {t e : TypeId} {F : Fence} {nF : Nat}
theorem yR (K:SK P t e S.k){A:Array Oper}{rest:List Oper}{o:Oper}{a:Act}{Q:Exit->Act->World->Prop}(M:o.guard=none)(s x:Operand)
  (ho:o.op=.call { callee:=.builtin .append,args:=#[s,x],argTypes:=#[t,t] })
  (B:Nat) (v:Value) (d:List α) (hs:a.eval s=v) (D:GZ S e Z w B v d) (aa:Value) (y:α) (hx:a.eval x=aa) (hu:SE S (λg=>some g=v.ownBlock\/Z g) w aa [y]) (E:d.length+1<=1000000) (q:B<=w.heap.size)
  (h:∀ r w',GZ S e Z w' B r (d++[y])->w.grownBy w' v.ownBlock->(r.ownBlock=v.ownBlock\/r.ownBlock=some w.heap.size)->wpListIn F nF P A Q rest (a.put o.dst r) w'):wpListIn F nF P A Q (o :: rest) a w:=by
 obtain⟨i,z,hi,hz,n,O,L⟩:=K.hi;obtain⟨us,Y,h2,h3⟩:=D;obtain⟨ad,c,rfl,hc,hm,W,p⟩:=hu;have R:(d.length+1)*i.bytes<=140737488355328:=by
  have:=La E O;omega
 obtain⟨b,H,rfl,_,hn⟩:=p (by simp);obtain⟨l,n1,V,n3,n4⟩:=SE.flat hn;refine wpListIn_append_own_at w M s x t ho B e i z S.k i.bytes K.ht hi hz n rfl L S.pos v d.length us hs Y ⟨b,H,none⟩ 1 c l hx n1 (λj y u=>?_) V (by unfold maxLen;omega) R q
  (λr w' k1 J _ I=>h r w' ⟨us++l,by rw[Jc];exact k1,λy C=>?_,λj y u=>?_⟩ J I)
 ·rw[Addr.add_mid]
  exact n3 j y u
 ·rcases JV.1 C with C|C
  ·exact h2 y C
  ·exact V y C
 ·have m:=Y.1
  by_cases G:j<d.length
  ·rw[JE G] at u
   obtain⟨vs,U,T⟩:=h3 j y u;refine⟨vs,λf N=>?_,Sh.moved T J I⟩;have X:(j+1)*S.k<=d.length*S.k:=Kf _ G;rw[LK,LL] at X;rw[JE (by rw[m];omega)];exact U f N
  ·rw[JB (by omega)] at u
   obtain⟨vs,U,T⟩:=n4 (j - d.length) y u;refine⟨vs,λf N=>?_,Sh.moved T J I⟩;have X:d.length*S.k<=j*S.k:=Kf _ (by omega);rw[JB (by rw[m];omega),m,<-U f N,Nat.sub_mul];congr 1
   omega
end
structure gM (w0:World)(B0 gb gl last:Nat)(s:List UInt8)(i:Nat)(Y:Nat->Prop)(A:World)(o:Value):Prop where
 mk ::
 box:Bx A gb 115 #[o]
 lst:Bx A gl 3 #[.int .i64 (last:Int)]
 row:GZ fZ 24 (λg=>Y g\/g=gb) A B0 o (dU s i)
 apt:∀ g,o.ownBlock=some g->¬Y g
 kp:Kp w0 A
 sz:B0<=A.heap.size
theorem GZ.under {α:Type}{S:Sh α}{e:TypeId}{C b:Nat}{t:List α}{k:Nat->Prop}(h:GZ S e (λg=>Y g\/g=b) A C v t)(d:am Y A c)(a:kU Y k A c)(l:∀ g,v.ownBlock=some g->¬Y g):GZ S e (λg=>k g\/g=b) c C v t:=by
 have n:GZ S e (λg=>(Y g\/g=b)\/A.heap.size<=g) A C v t:=h.solidly λg a=>a.elim (λh=>.inr (.inl h)) λh=>.inr (.inr λd=>by have:=d.lt;omega)
 have m:GZ S e (λg=>(Y g\/g=b)\/A.heap.size<=g) c C v t:=n.step d (λg a=>.inl (.inl (.inl a))) l;refine m.solidly λg f=>?_
 rcases f with j|j
 ·rcases a g j with i|i
  ·exact .inr (.inl (.inl (.inl i)))
  ·exact .inr (.inl (.inr i.1))
 ·exact .inr (.inl (.inl (.inr j)))
theorem gM.minds {f e:Nat}(D:w0.heap.size<=d)(C:f<d)(B:e<d)(j:Prop):dO d (λY A=>j/\∃ o,gM w0 d f e a s i Y A o):=by
 rintro Y E A F ⟨x,o,u,t,r,q,p,z⟩ l b m;have w:¬Y f:=λh=>by have:=(l _ h).1;omega
 have v:¬Y e:=λh=>by have:=(l _ h).1;omega
 refine⟨x,o,(b.block f (IX.1 u).1 w).trans u,(b.block e (IX.1 t).1 v).trans t,r.under b m q,λg c h=>?_,Below.trans p (b.below p.size (λk y=>by have:=(l k y).1;omega)),Js z b.size⟩;rcases m g h with n|n
 ·exact q g c n
 ·have:=(r.lt g c).2;omega
theorem gM.next {o l:Value}{q:Obj}{R:Nat->Prop}(U:w0.heap.size<=a)(W:a<m)(V:j<m)(y:a≠j)(h:gM w0 m a j d s i Y A o)(D:∀ k,Y k->m<=k/\k<A.heap.size)(E:∀ k,R k->k<m/\k≠a)
  (L:GZ fZ 24 (λg=>(Y g/\¬leads v g)\/g=a) c m l (dU s (i+1))) (n:(A.alloc q).grownBy c o.ownBlock) (z:l.ownBlock=o.ownBlock\/l.ownBlock=some (A.alloc q).heap.size):
  c.frozen? ⟨a,0,none⟩=false/\c.cell? ⟨a,0,none⟩=some o/\gM w0 m a j d s (i+1) (λk=>Y k/\¬leads v k) (c.setCell ⟨a,0,none⟩ l) l/\aT (λk=>Y k\/R k) A (c.setCell ⟨a,0,none⟩ l):=by
 obtain⟨T,S,Q,G,P,O⟩:=h;have f:∀ g,o.ownBlock=some g->m<=g/\g<A.heap.size:=Q.lt;have I:some a≠o.ownBlock:=λe=>by have:=(f a e.symm).1;omega
 have H:some j≠o.ownBlock:=λe=>by have:=(f j e.symm).1;omega
 have p:Bx c a 115 #[o]:=((n.block a (by simp;omega) I).trans (Below.heap_alloc A _ a (by omega))).trans T;have u:Bx c j 3 #[.int .i64 (d:Int)]:=((n.block j (by simp;omega) H).trans (Below.heap_alloc A _ j (by omega))).trans S;have b:am (λk=>k=a) c (c.setCell ⟨a,0,none⟩ l):=(am.refl _ _).setCell _ _ (.inr rfl);have t:A.heap.size<=c.heap.size:=by have:=n.size;simp at this;omega
 have r:∀ g,l.ownBlock=some g->m<=g/\¬Y g:=λg e=>by
  rcases z with B|B
  ·rw[B] at e
   exact⟨(f g e).1,G g e⟩
  ·rw[B] at e
   simp only[Jn,JL] at e;refine⟨by omega,λJ=>?_⟩;have:=(D g J).2;omega
 have C:Kp w0 c:=Kp.grown (v:=o) (P.alloc _) n (λk x=>by have:=(f k x).1;omega);refine⟨p.frozen 0,?_,⟨p.set 0 l,(b.block j (IX.1 u).1 (λe=>y e.symm)).trans u,L.step b (λg n=>.inl (.inr n)) (λg e M=>by have:=(r g e).1;omega),λg e N=>(r g e).2 N.1,Below.trans C (b.below C.size (λk x=>by omega)),Js O (Js t b.size)⟩,⟨Js t b.size,λk x K=>?_⟩⟩
 ·have:=p.cell 0
  simpa using this
 ·have F:k≠a/\some k≠o.ownBlock:=by
   rcases K with w|w
   ·exact⟨λe=>by have:=(D k w).1;omega,λe=>G k e.symm w⟩
   ·exact⟨(E k w).2,λe=>by have:=(f k e.symm).1;have:=(E k w).1;omega⟩
  exact(b.block k (by omega) F.1).trans ((n.block k (by simp;omega) F.2).trans (Below.heap_alloc A _ k x))
theorem yS (v:Value)(s:List UInt8)(n:Nat)(w:World)(hv:Rd w v s)(hs:s.length=32)(hn:n<=1000):
  Calls prog 56 #[v,.int .i64 (n:Int)] w λe w'=>(∃ o r,e=.returned (.tuple #[o,r])/\aL fZ w' o (dU s n)/\Rd w' r (fw s n)/\bq (λg=>g<w.heap.size) o)/\Kp w w':=by
 have aG:=Lib.hid (λW (hW:Kp w W)=>Hh v s W (hv.kp hW));have aF:=Lib.hid (λN b W (hW:Kp w W) (hb:W.cell? ⟨b,0,none⟩=some v)=>Hi v s N b W (hv.kp hW) hs hb);have HV:=Lib.hid hv;obtain⟨L,hL⟩:∃ L,(if n=0 then 1 else n)=L:=⟨_,rfl⟩;have aB:fw s n=aW s L:=by unfold fw;rw[hL]
 have aQ:n<=L/\1<=L/\L<=1000:=by rw[<-hL];split <;> omega
 have aX:max (n:Int) 1=(L:Int):=by rw[<-hL];split <;> omega
 rw[aB];obtain⟨a,X,c,rfl⟩:=az hv;have a1:=Lib.hid aQ;clear hv hs hL aB;refine(callsIn_wide (n:=4)).1 ?_;refine callsIn_of_wp_marks func56 rfl trivial ?_ rfl;refine wpIn_wide.2 ?_;simp only[ntmps56,Ka,Kb,Jt,Jo,Nat.reduceAdd,Nat.reduceSub,JX,JY,Kg,JR,Kc];go_wp2_with fail;obtain⟨w2,u⟩:∃ x,(w.alloc (.cells #[.slice none 0 0] 115)).alloc (.cells #[.int .i64 (L:Int)] 3)=x:=⟨_,rfl⟩;have ab:w2.heap.size=w.heap.size+2:=by rw[<-u];simp
 have aw:Bx w2 w.heap.size 115 #[.slice none 0 0]:=by rw[<-u];exact(Bx.new w _ _).kp ((Kp.refl _).alloc _)
 have ap:Bx w2 (w.heap.size+1) 3 #[.int .i64 (L:Int)]:=by
  have:=Bx.new (w.alloc (.cells #[.slice none 0 0] 115)) 3 #[.int .i64 (L:Int)];rw[Jn] at this;rw[<-u];exact this
 have E:Kp w w2:=by rw[<-u];exact((Kp.refl _).alloc _).alloc _
 rw[u];clear u;refine(aG.out w2 E).mono ?_;rintro _ _ ⟨rfl,rfl⟩;obtain⟨j,z⟩:∃ x,w2.alloc (.cells #[.slice a X c] 24)=x:=⟨_,rfl⟩;have y:Kp w2 j:=by rw[<-z];exact(Kp.refl _).alloc _
 have an:j.heap.size=w.heap.size+3:=by rw[<-z];simp[ab]
 have av:j.cell? ⟨w2.heap.size,0,none⟩=some (.slice a X c):=by
  have:=(Bx.new w2 24 #[.slice a X c]).cell 0;rw[<-z];simp
 rw[z];have ag:=Lib.hid (aF.out (L+1) w2.heap.size j (E.trans y) av);have aU:Hid (gM w j.heap.size w.heap.size (w.heap.size+1) L s 0 (λ_=>False) j (.slice none 0 0)):=⟨aw.kp y,ap.kp y,by exact GZ.nil _ _ _,λg hg=>(by cases hg),E.trans y,Ja _⟩;have p:Hid (w2.heap.size=w.heap.size+2/\j.heap.size=w.heap.size+3):=⟨ab,an⟩;have K3:=Lib.hid (E.trans y);have hE:∀ args w,(callFunc 133 args).run prog w=.ok (.enter 133 args) w:=enters_of func133 (by kernel_rfl) rfl;clear z av aw ap E y aG aF ab an;go_wp2_with fail;obtain⟨VL,aA⟩:∃ VL:Nat->Prop,(λk=>leads (.slice a X c) k)=VL:=⟨_,rfl⟩;have H:∀ k,leads (.slice a X c) k↔VL k:=λk=>by rw[<-aA]
 have G:∀ k,VL k->k<w.heap.size:=λk d=>HV.out.leads_lt k ((H k).2 d)
 simp only[H] at ag;obtain⟨R,hR⟩:∃ R:Nat->Prop,(λk=>k=w2.heap.size\/VL k)=R:=⟨_,rfl⟩;have ah:Hid (∀ k,R k->k<j.heap.size/\k≠w.heap.size):=λk d=>by
  have:=p.out;rw[<-hR] at d;rcases d with rfl|d
  ·omega
  ·have:=G k d;omega
 have aT:Hid (∀ k,VL k->R k):=λk d=>by rw[<-hR];exact .inr d
 have aE:=Lib.hid G;rw[hR] at ag;clear hR aA H G;refine Hg (gf:=133) (lb:=#[.pointer (some ⟨w2.heap.size,0,none⟩)]) rfl hE (Kp.refl j) (λk d=>(ah.out k d).1) ag.out rfl
   (λi Y A=>i<=L/\∃ o,gM w j.heap.size w.heap.size (w.heap.size+1) L s i Y A o) (λe i Y A=>e=.exit 0/\∃ o,gM w j.heap.size w.heap.size (w.heap.size+1) L s (L+1) Y A o) ?mI ?mIx ?IN ?Tl ?TT ?h0
   (λv a' _=>a'={ tmps:=#[.slice a X c,.int .i64 (n:Int),undef,undef,.slice none 0 0,.slice none 0 0,.pointer (some ⟨w.heap.size,0,none⟩),.pointer (some ⟨w.heap.size+1,0,none⟩),v,.int .i64 (n:Int),.int .i64 (L:Int),.slice a X c,.func (.func 133) #[] #[.pointer (some ⟨w2.heap.size,0,none⟩)],v,undef,undef,undef,undef,undef,undef,undef,undef,undef,undef,undef,undef,undef,undef,undef],defers:=[] })
   (λ_ _ _ _ _ _ h _ _=>h) ?assign ?body ?done ?stop
 case mI=>intro i;exact gM.minds (by have:=p.out;omega) (by have:=p.out;omega) (by have:=p.out;omega) _
 case mIx=>intro e i;exact gM.minds (by have:=p.out;omega) (by have:=p.out;omega) (by have:=p.out;omega) _
 case IN=>rintro Y A ⟨h,_⟩;omega
 case Tl=>intro i v Y A h k d;exact(h.2 k d).imp id (aT.out k)
 case TT=>
  rintro i v Yi Y A A' l o ⟨hr,hv⟩ aJ _ _ hl hs;exact⟨hr.turn hl rfl hs,λk d=>(hv k d).imp (aJ k) id⟩
 case h0=>exact⟨Jl _,_,aU.out⟩
 case assign=>
  intro l i Y Yi v A Kk f aP hK;obtain⟨O,I,M,rfl⟩:=az aP.1;gi_wp2
  exact hK _ _ (Kp.refl _) rfl
 case body=>
  rintro l i Y v a' A hi ⟨aY,o,f⟩ ai aZ ⟨ad,aa⟩ rfl;have aM:=f.box.cell 0;have aN:=f.lst.cell 0;simp only[Jj,Jg] at aM aN;obtain⟨O,I,M,rfl⟩:=az ad;obtain⟨ao,no,co,rfl⟩:=SE.sl f.row.gl;have hz:=p.out;have al:=f.sz;have P:(dU s i).length+1<=1000000:=by rw[jN];omega
  have U:Hid (SE fZ (λg=>some g=(Value.slice ao no co).ownBlock\/((Y g/\¬leads (.slice O I M) g)\/g=w.heap.size)) (A.alloc (.cells #[.slice O I M] 24)) (.slice (some ⟨A.heap.size,0,none⟩) 1 1) [aW s i]):=by
   refine SE.litZ (S:=fZ) 24 ⟨_,rfl,ad,λx m c' e h0 d=>?_⟩ rfl;have ae:leads (.slice O I M) x.block:=⟨x,m,c',e,h0,rfl⟩;rcases d with d|d|d
   ·have h1:=(f.row.lt _ d.symm).1
    rcases aa _ ae with h2|h2
    ·exact f.apt _ d.symm h2
    ·have:=aE.out _ h2;omega
   ·exact d.2 ae
   ·rcases aa _ ae with h2|h2
    ·have:=(ai _ h2).1;omega
    ·have:=aE.out _ h2;omega
  have T:Hid (GZ fZ 24 (λg=>(Y g/\¬leads (.slice O I M) g)\/g=w.heap.size) (A.alloc (.cells #[.slice O I M] 24)) j.heap.size (.slice ao no co) (dU s i)):=
   (f.row.solidly λg hg=>.inr (.inl (hg.imp And.left id))).kp ((Kp.refl A).alloc _)
  have F:j.heap.size<=(A.alloc (.cells #[.slice O I M] 24)).heap.size:=Js al (by simp);have aI:=Lib.hid f;have aD:=Lib.hid ai;have aj:=Dm s i;clear f ad aa al hz;by_cases af:i=L
  ·subst af
   gi_wp2_with (gi_at_builtin;refine yR (S:=fZ) (Z:=λg=>(Y g/\¬leads (.slice O I M) g)\/g=w.heap.size) (o:=⟨some 17,_,_,_,_,_⟩) byK rfl _ _ rfl j.heap.size _ (dU s i) rfl T.out _ (aW s i) rfl U.out P F ?_;intro v' w5 V g5 h5;rw[<-aj] at V;obtain⟨a5,c5,e5,_,_⟩:=SE.shape V.gl;rw[jN] at e5;subst e5;obtain⟨f5,aS,t,aC⟩:=gM.next (R:=R) (by have:=p.out;omega) (by have:=p.out;omega) (by have:=p.out;omega) (by omega) aI.out aD.out ah.out V g5 h5;have ca:=t.box.cell 0;have Q:=t.lst.cell 0;simp only[Jj,Jg] at ca Q)
   exact⟨aC,.inr ⟨_,rfl,rfl,_,t⟩⟩
  ·gi_wp2_with (gi_at_builtin;refine yR (S:=fZ) (Z:=λg=>(Y g/\¬leads (.slice O I M) g)\/g=w.heap.size) (o:=⟨some 17,_,_,_,_,_⟩) byK rfl _ _ rfl j.heap.size _ (dU s i) rfl T.out _ (aW s i) rfl U.out P F ?_;intro v' w5 V g5 h5;rw[<-aj] at V;obtain⟨a5,c5,e5,_,_⟩:=SE.shape V.gl;rw[jN] at e5;subst e5;obtain⟨f5,aS,t,aC⟩:=gM.next (R:=R) (by have:=p.out;omega) (by have:=p.out;omega) (by have:=p.out;omega) (by omega) aI.out aD.out ah.out V g5 h5;have ca:=t.box.cell 0;have Q:=t.lst.cell 0;simp only[Jj,Jg] at ca Q)
   exact .inl ⟨by omega,_,t⟩
 case done=>rintro D Y W hD ay ax ⟨h,_⟩ hd;omega
 case stop=>
  rintro D e i Y W hD ay ax hi ⟨rfl,o,f⟩ hd;rename_i Qp Kk a0
  have K:=f.row.gl;obtain⟨gb,ob,Q,q,e1,_,cq,rq⟩:=aL.bs (i:=L) K (by rw[jN];omega);rw[jN] at e1;subst e1;obtain⟨aq,nq,aR,rfl⟩:=az rq;have c6:=f.box.cell 0;have c7:=f.lst.cell 0;simp only[Jj,Jg] at c6 c7;have e2:kr (dU s (L+1)) L=aW s L:=rT s (by omega);rw[e2] at rq;have B:=SE.pre K n (by omega);rw[Dn s (by omega)] at B;have HG:=Lib.hid B;have aV:Hid (bq (λg=>g<w.heap.size) (.slice (some ⟨gb,ob,none⟩) n Q)):=cO (C:=j.heap.size) (λg hg=>(f.row.lt g (by cases hg;rfl)).1) λg hg=>by have:=p.out;omega
  have HR:=Lib.hid rq;have aH:=Lib.hid f.kp;have HD:=Lib.hid hd;have i1:¬(n:Int)<0:=by omega
  have i2:(n:Int)<=(Q:Int):=by
   obtain⟨_,c',e3,h3,_⟩:=SE.shape K;rw[jN] at e3 h3;simp only[Ji] at e3;omega
  have i3:(L:Int)<((L+1:Nat):Int):=by omega
  clear f K B rq hd e2 ax ay;go_wp2;go_region
  go_wp2;have ar:W.drew.heap[D]?=some (.deferred (some [])):=HD.out;have ak:am (λk=>k=D) W.drew (W.drew.putObj D (.deferred none)):=(am.refl _ _).putObj _ _ (.inr rfl);have au:Cs W.drew (W.drew.putObj D (.deferred none)):=ak.cs λg e hs=>by
   subst e;obtain⟨_,_,_,h⟩:=hs;rw[ar] at h;cases h
  have J:Kp W W.drew:=(Kp.refl W).drew;have aO:aL fZ (W.drew.putObj D (.deferred none)) (.slice (some ⟨gb,ob,none⟩) n Q) (dU s n):=aL.cs (aL.kp (show aL fZ W _ _ from HG.out) J) au;have aK:=(HR.out.kp J).cs au;refine⟨by simp,.inl ⟨_,_,rfl,run_takeDeferred ar,?_⟩⟩;exact⟨_,results_tmp2 rfl _ _ _,⟨.slice (some ⟨gb,ob,none⟩) n Q,.slice aq nq aR,rfl,aO,aK,aV.out⟩,Below.trans (aH.out.trans J) (ak.below (aH.out.trans J).size (λk d=>by have:=p.out;omega))⟩
end
section
open Go.Maps
theorem zb {l:List Nat}{k:Nat}:(l.drop k).getD j 0=l.getD (k+j) 0:=by
 rw[IU,IU,LJ]
theorem Ia (aa n s x y vs:Value)(t:List Nod)(K i k m F:Nat)(S:Sd->Prop)(b:List UInt8)(p:Pa)(w:World)(O:WIn w aa n s t K i)(hm:KM prog 3 w m F S)(hp:PIn w x y p)(Z:Rd w vs b)(a7:b.length=32)
  (hk:k<(ixS t i K).length) (hM:(ixS t i K).length<=10) (a3:p.step.length=(ixS t i K).length) (bU:F<=100000) (hd:∀ a,S a->∀ z∈(aA t i K).drop k,a.node≠(z:Int)) (B:∀ z∈aA t i K,z<=100000):
  Calls prog 71 #[.agg #[aa,.int .i64 (i:Int),n,s],.int .i64 (k:Int),.map (some m),vs,.agg #[x,y]] w λe w'=>
   (∃ r E,e=.returned (.tuple #[r,.int .i64 E])/\((jM p.step b k (ixS t i K).length/\E=0/\Rd w' r (aW b ((ixS t i K).length - k))/\KM prog 3 w' m (F+((ixS t i K).length - k)) (fC S b ((aA t i K).drop k) ((ixS t i K).length - k)))\/(¬jM p.step b k (ixS t i K).length/\E=5/\Rd w' r [])))/\am (λg=>g=m) w w':=by
 have bg:=(fY t i K).1;have a2:=ik t i K;have be:=Lib.hid (λW (u:Kp w W)=>yS vs b ((ixS t i K).length - k) W (Z.kp u) a7 (by omega));have bh:((aA t i K).drop k).Nodup:=(lP t i K).sublist (List.drop_sublist _ _);have bf:((aA t i K).drop k).length=(ixS t i K).length - k:=by rw[Ky,bg]
 have aP:=Lib.hid (λj (h:j<(ixS t i K).length - k) (z:Sd)=>yD (own:=S) (s:=b) (n:=j) bh hd (by rw[bf];exact h) z);have bP:=Lib.hid (λz=>yC (own:=S) (s:=b) (xs:=(aA t i K).drop k) z);have bb:=Lib.hid (λa (h:a<(ixS t i K).length)=>kE (t:=t) (i:=i) (m:=K) h);have aN:Hid (∀ j,j<(ixS t i K).length - k->((aA t i K).drop k).getD j 0=(aA t i K).getD (k+j) 0/\(aA t i K).getD (k+j) 0<=100000):=λj hj=>⟨zb,B _ (by rw[IU,IV (by omega)];exact JD _)⟩
 have aF:Hid (jM p.step b k (ixS t i K).length↔∀ j,j<(ixS t i K).length - k->aJ (bw b j)=(aC p.step (k+j)).pub):=⟨λh j hj=>h j (by omega),λh j hj=>h j (by omega)⟩;have bd:Hid (∀ j,dE (bw b j)=aJ (bw b j)):=λj=>(fk (lH _ dT)).2
 have bc:Hid (∀ j,br (aW b j) dT=bw b j):=λj=>rfl
 have bB:Hid (fw b ((ixS t i K).length - k)=aW b ((ixS t i K).length - k)):=by unfold Hid fw;rw[if_neg (by omega)]
 have aV:=Lib.hid (λj (h:j<(ixS t i K).length - k)=>rT b h);have aT:=Lib.hid (jN b ((ixS t i K).length - k));have ao:=Lib.hid (λW (x:Int) (q v:Value) (c:List Int) j (hq:RI W q c) (Z:Rd W v (aW b j))=>yM x q v c (aW b j) W hq Z (by rw[jo a7 j];omega));have ax:=Lib.hid (λW (aa:Value) j (O:Rd W aa (bw b j))=>yi aa (bw b j) W O);simp only[bd.out] at ax;simp only[bc.out] at ao;have aX:=Lib.hid (λW (aa v:Value) (l m:List UInt8) (O:Rd W aa l) (Z:Rd W v m)=>lX aa v l m W O Z);have aO:=Lib.hid O.steps;have aQ:=Lib.hid hp.step;have HM:=Lib.hid hm;obtain⟨au,nu,cu,rfl⟩:=O.tree.sl;obtain⟨an,nn,cn,rfl⟩:=O.nodes.sl;obtain⟨bY,aM,rfl,q5,q6⟩:=SE.shape O.steps;obtain⟨ap,np,cp,rfl⟩:=az hp.pub;obtain⟨a6,c6,rfl,q9,bG⟩:=SE.shape hp.step;obtain⟨gs,os,rfl,_,_⟩:=SE.at O.steps (by omega);obtain⟨T,R,rfl,_,_⟩:=SE.at hp.step (by omega);obtain⟨av,nv,cv,rfl⟩:=az Z;rw[a2] at q5 aO ⊢;rw[a3] at q9 aQ ⊢;generalize jM p.step b k (ixS t i K).length=HP at *;generalize fC S b ((aA t i K).drop k)=HL at *;generalize (aA t i K).drop k=XS at *;generalize aA t i K=ST at *;have bC:=Lib.hid a3;have bA:=Lib.hid a2;generalize (ixS t i K).length=M at *;obtain⟨J,hJ⟩:∃ J,M - k=J:=⟨_,rfl⟩;have bn:M=k+J:=by omega
 have bM:0<J/\J<=10:=by omega
 rw[hJ] at be aP aN aF bB aV aT ⊢;have i2:IntKind.i64.wrap ((M:Int) - (k:Int))=(J:Int):=by rw[IW _ (by omega)];omega
 unfold maxLen at q6 bG;have bV:¬(M:Int)<(k:Int):=by omega
 have bW:(M:Int)<=(aM:Int):=by omega
 have ay:=Lib.hid bn;clear O hm hp Z a7 a3 hd B bg a2 bh bf bn;go_enter func71,ntmps71;go_wp2_with fail;obtain⟨w1,Y⟩:∃ w1,(w.alloc (.cells #[.slice au nu cu,.int .i64 (i:Int),.slice an nn cn,.slice (some ⟨gs,os,none⟩) M aM] 95)).alloc (.cells #[.slice ap np cp,.slice (some ⟨T,R,none⟩) M c6] 27)=w1:=⟨_,rfl⟩;have HB:Hid (Bx w1 w.heap.size 95 #[.slice au nu cu,.int .i64 (i:Int),.slice an nn cn,.slice (some ⟨gs,os,none⟩) M aM]):=by unfold Hid;rw[<-Y];exact(Bx.new w _ _).kp ((Kp.refl _).alloc _)
 have bT:Hid (Bx w1 (w.heap.size+1) 27 #[.slice ap np cp,.slice (some ⟨T,R,none⟩) M c6]):=by
  unfold Hid;have:=Bx.new (w.alloc (.cells #[.slice au nu cu,.int .i64 (i:Int),.slice an nn cn,.slice (some ⟨gs,os,none⟩) M aM] 95)) 27 #[.slice ap np cp,.slice (some ⟨T,R,none⟩) M c6];rw[Jn] at this;rw[<-Y];exact this
 have K1:Hid (Kp w w1):=by unfold Hid;rw[<-Y];exact((Kp.refl _).alloc _).alloc _
 rw[Y];clear Y;refine(be.out w1 K1.out).mono ?_;rintro _ w2 ⟨⟨o2,r2,rfl,ah,aH,_⟩,k2⟩;obtain⟨ae,ce,rfl,q1,q2⟩:=SE.shape ah;rw[aT.out] at ah q1 ⊢;obtain⟨ge,oe,rfl,_,_⟩:=SE.at ah bM.1;obtain⟨ar,nr,cr,rfl⟩:=az aH;rw[bB.out] at aH;have bS:=Lib.hid ah;have bQ:=Lib.hid aH;have K2:=Lib.hid k2;have U:=Lib.hid (K1.out.trans k2);have bz:=Lib.hid (HM.out.kp U.out);have d3:=(HB.out.kp k2).cell 3;simp only[Jj,Jg,Jk] at d3;clear ah aH k2 be;go_wp2_with fail;have bR:Hid (¬bX w2 m):=bz.out.nosolid;go_loopw[31] (λz wr=>∃ j:Nat,j<=J/\z=.int .i64 (j:Int)/\KM prog 3 wr m (F+j) (HL j)/\(∀ a,a<j->aJ (bw b a)=(aC p.step (k+a)).pub)/\am (λg=>g=m) w2 wr) (λz _=>(J - (intOf z).toNat))
 case atStart=>exact⟨0,Jl _,rfl,bz.out.congr λz=>bP.out z,λa h=>by omega,am.refl _ _⟩
 case round=>
  obtain⟨j,hj,rfl,bi,aY,ab⟩:=hrel;have aS:=Lib.hid bi;have aR:=Lib.hid aY;have a0:=Lib.hid ab;have aG:Hid (Cs w2 wr):=ab.cs λg e=>by subst e;exact bR.out
  clear bi aY ab d3;by_cases B:j<J
  ·obtain⟨b1,o1,y1,q,e1,_,c0,c1,rq⟩:=aL.sp (i:=k+j) (aL.cs (aL.kp aO.out U.out) aG.out) (by rw[bA.out];have:=ay.out;omega)
   rw[bA.out] at e1;simp only[Ji,JL,Kn,and_true] at e1;obtain⟨⟨rfl,rfl⟩,_,rfl⟩:=e1;rw[bb.out (k+j) (by have:=ay.out;omega)] at c0 rq;dsimp only at c0 rq
   obtain⟨x1,x2⟩:=aN.out j B;rw[<-x1] at c0 x2;rw[show os+(k+j)*2=os+k*2+j*2 by omega] at c0 c1;obtain⟨b2,o2,y2,ve,e2,_,c2,rv⟩:=aL.bs (i:=j) (aL.cs bS.out aG.out) (by rw[aT.out];exact B);rw[aT.out] at e2;simp only[Ji,JL,Kn,and_true] at e2;obtain⟨⟨rfl,rfl⟩,_,rfl⟩:=e2;have bj:kr (dU b J) j=aW b j:=aV.out j B;rw[bj] at rv;obtain⟨b3,o3,y3,pv,qv,e3,_,c3,_,rp,_⟩:=eo.node (i:=k+j) (aL.cs (aL.kp aQ.out U.out) aG.out) (by rw[bC.out];have:=ay.out;omega);rw[bC.out] at e3;simp only[Ji,JL,Kn,and_true] at e3;obtain⟨⟨rfl,rfl⟩,_,rfl⟩:=e3;have G:=Lib.hid (aP.out j B);have a1:Hid (aJ (bw b j)=(aC p.step (k+j)).pub->∀ a,a<j+1->aJ (bw b a)=(aC p.step (k+a)).pub):=λh a ha=>by
    rcases JC (JN.1 ha) with h3|h3
    ·exact aR.out a h3
    ·rw[h3];exact h
   have bv:Hid (¬aJ (bw b j)=(aC p.step (k+j)).pub->¬HP):=λh hp=>h (aF.out.1 hp j B)
   obtain⟨X,hX⟩:∃ X,XS.getD j 0=X:=⟨_,rfl⟩;rw[hX] at c0 x2 G;obtain⟨ba,aZ⟩:∃ P,(aC p.step (k+j)).pub=P:=⟨_,rfl⟩;rw[aZ] at rp a1 bv;obtain⟨aq,nq,cq,rfl⟩:=rq.sl;obtain⟨a9,n9,c9,rfl⟩:=az rv;obtain⟨aj,V,ai,rfl⟩:=az rp;obtain⟨CV,bo⟩:∃ C,(aU t i K).getD (k+j) []=C:=⟨_,rfl⟩;rw[bo] at rq;have i1:IntKind.i64.wrap ((j:Int)+1)=(j:Int)+1:=IW _ (by omega);have i4:IntKind.i64.wrap ((k:Int)+(j:Int))=(k:Int)+(j:Int):=IW _ (by have:=ay.out;omega);have i6:¬(k:Int)+(j:Int)<0:=by omega
   have i7:((k:Int)+(j:Int)).toNat=k+j:=by omega
   have i8:(0:Int)<=(k:Int)+(j:Int):=by omega
   have i3:(j:Int)<(J:Int):=by omega
   have i5:(k:Int)+(j:Int)<(M:Int):=by have:=ay.out;omega
   have D:Go.keyOf prog 3 (.int .i64 (X:Int))=some (.int .i64 (X:Int)):=keyOf_int_mk underlying3 (Ln (by omega));have ad:=D;have bk:F+j<maxLen:=by unfold maxLen;omega
   obtain⟨A,aK⟩:∃ x,wr.alloc (.cells #[.int .i64 (X:Int),.slice aq nq cq] 99)=x:=⟨_,rfl⟩;have KQ:Hid (Kp wr A):=by unfold Hid;rw[<-aK];exact(Kp.refl _).alloc _
   have bl:Bx A wr.heap.size 99 #[.int .i64 (X:Int),.slice aq nq cq]:=by rw[<-aK];exact Bx.new wr _ _
   have bE:=Lib.hid bl;have CQ:Hid (Cs wr A):=KQ.out.cs;have CD:Hid (Cs A A.drew):=(Kp.refl A).drew.cs;have aw:Hid (∀ W,Cs A W->W.cell? ⟨wr.heap.size,0,none⟩=some (.int .i64 (X:Int))/\W.cell? ⟨wr.heap.size,1,none⟩=some (.slice aq nq cq)/\W.cell? ⟨ge,oe+j,none⟩=some (.slice a9 n9 c9)):=λW u=>
    ⟨(bE.out.cs u).cell 0,(bE.out.cs u).cell 1,(CQ.out.trans u).cell c2⟩
   have bK:=Lib.hid (aw.out _ CD.out);have bm:=bT.out.kp K2.out;have bD:Hid (∀ W,Cs A W->W.cell? ⟨w.heap.size+1,1,none⟩=some (.slice (some ⟨T,R,none⟩) M c6)/\W.cell? ⟨T,R+(k+j)*2,none⟩=some (.slice aj V ai)):=λW u=>
    ⟨((bm.cs aG.out).cs (CQ.out.trans u)).cell 1,(CQ.out.trans u).cell c3⟩
   have bt:=Lib.hid (λW (u:Cs A W)=>rq.cs (CQ.out.trans u));have bq:=Lib.hid (λW (u:Cs A W)=>rv.cs (CQ.out.trans u));have bu:=Lib.hid (λW (u:Cs A W)=>rp.cs (CQ.out.trans u));have bx:=Lib.hid (aS.out.kp KQ.out);have bp:Hid (am (λg=>g=m) w2 A):=a0.out.next (am.of_kp KQ.out);clear bl bm hX aZ bo bj x1 rq rv rp aP bb aN aF bd bc aV aO aQ aR c2 c3 aS;by_cases aI:aJ (bw b j)=ba
   ·have N:=Lib.hid (λW (aa v:Value) (O:Rd W aa (aJ (bw b j))) (Z:Rd W v ba)=>aX.out W aa v _ _ O Z)
    rw[Jy aI] at N;clear aX;go_wp2_with fail;try rw[aK]
    go_region_held3 (λW=>W.cell? ⟨wr.heap.size,0,none⟩=some (.int .i64 (X:Int))/\W.cell? ⟨wr.heap.size,1,none⟩=some (.slice aq nq cq)/\W.cell? ⟨ge,oe+j,none⟩=some (.slice a9 n9 c9))
     (first|with_reducible exact bK.out|with_reducible exact S5.out|with_reducible exact S6.out)
     (first
      | (go_at_call 59;refine(ao.out _ (X:Int) _ _ _ j (bt.out _ CD.out) (bq.out _ CD.out)).mono ?_;rintro _ w5 ⟨⟨v5,rfl,r5,bI⟩,k5⟩;obtain⟨a5,n5,c5,rfl⟩:=az r5;have C5:Hid (Cs A w5):=CD.out.trans k5.cs;have S5:=Lib.hid (aw.out _ C5.out);have L:=Lib.hid (bx.out.kp ((Kp.refl A).drew.trans k5));have al:Hid (gI w5 (.agg #[.int .i64 (X:Int),.slice a5 n5 c5]) ⟨(X:Int),bw b j⟩):=⟨_,rfl,r5⟩;have ak:Hid (am (λg=>g=m) w2 w5):=bp.out.next (am.of_kp ((Kp.refl A).drew.trans k5));obtain⟨d,o,a4,ag⟩:=yV (e:=90) 103 fO underlying103 L.out bk ⟨(X:Int),bw b j⟩ _ D al.out;dsimp only at o;have aE:=Lib.hid a4;have C6:Hid (Cs A d):=C5.out.trans (Cs.grown ag L.out.nosolid);have S6:=Lib.hid (aw.out _ C6.out);have G6:Hid (am (λg=>g=m) w2 d):=ak.out.then ag (λg hg=>by cases hg;exact .inr rfl)))
    have aD:Hid (KM prog 3 d m (F+(j+1)) (HL (j+1))):=aE.out.congr λy=>G.out y
    have af:HL (j+1) ⟨(X:Int),bw b j⟩:=(G.out _).2 (.inl rfl);have zs:=kN d.drew;have aB:=Lib.hid (aD.out.kp (Kp.refl d).drew);have bL:=qg (X:Int);obtain⟨qd,f,H⟩:=sX (e:=90) 103 fO underlying103 zs aB.out ⟨(X:Int),bw b j⟩ af ad;obtain⟨bO,bJ,bN,rfl⟩:=az H;dsimp only [sdV] at f
    obtain⟨g0,_,_⟩:=S6.out;have I:Hid (∀ W,Cs d W->W.cell? ⟨wr.heap.size,0,none⟩=some (.int .i64 (X:Int))/\W.cell? ⟨w.heap.size+1,1,none⟩=some (.slice (some ⟨T,R,none⟩) M c6)/\W.cell? ⟨T,R+(k+j)*2,none⟩=some (.slice aj V ai)):=λW u=>⟨u.cell S6.out.1,bD.out _ (C6.out.trans u)⟩
    have C7:Hid (Cs d d.drew):=(Kp.refl d).drew.cs;have S7:=Lib.hid (I.out _ C7.out);clear bK S5 S6 L al ak ao D g0 aE o;go_wp2_with fail;go_region_held3 (λW=>W.cell? ⟨wr.heap.size,0,none⟩=some (.int .i64 (X:Int))/\W.cell? ⟨w.heap.size+1,1,none⟩=some (.slice (some ⟨T,R,none⟩) M c6)/\W.cell? ⟨T,R+(k+j)*2,none⟩=some (.slice aj V ai))
     (first|with_reducible exact S7.out|with_reducible exact S8.out|with_reducible exact S9.out)
     (first
      | (go_at_call 52;refine(N.out _ _ _ R8.out (bu.out _ (C6.out.trans C8.out))).mono ?_;rintro _ w9 ⟨rfl,k9⟩;have C9:=Lib.hid (C8.out.trans k9.cs);have S9:=Lib.hid (I.out _ C9.out);have K9:=Lib.hid (K8.out.trans k9))
      | (go_at_call 55;refine(ax.out _ _ j H).mono ?_;rintro _ w8 ⟨⟨v8,rfl,r8,bH⟩,k8⟩;obtain⟨a8,n8,c8,rfl⟩:=az r8;have R8:=Lib.hid r8;have K8:Hid (Kp d w8):=(Kp.refl d).drew.trans k8;have C8:=Lib.hid (K8.out.cs);have S8:=Lib.hid (I.out _ C8.out)))
    have KF:=Lib.hid (aD.out.kp K9.out);have GF:Hid (am (λg=>g=m) w w9):=(am.of_kp U.out).next (G6.out.next (am.of_kp K9.out));have bF:Hid (am (λg=>g=m) w2 w9):=G6.out.next (am.of_kp K9.out);clear S7 S8 S9 aB zs N ax R8 f H;go_wp2_with fail;go_roundw
    case rel=>exact⟨j+1,by omega,by first|rfl|(rw[i1];rfl),KF.out,a1.out aI,bF.out⟩
    case measure=>simp[intOf];omega
   ·have N:=Lib.hid (λW (aa v:Value) (O:Rd W aa (aJ (bw b j))) (Z:Rd W v ba)=>aX.out W aa v _ _ O Z)
    rw[Jr aI] at N;clear aX;go_wp2_with fail;try rw[aK]
    go_region_held3 (λW=>W.cell? ⟨wr.heap.size,0,none⟩=some (.int .i64 (X:Int))/\W.cell? ⟨wr.heap.size,1,none⟩=some (.slice aq nq cq)/\W.cell? ⟨ge,oe+j,none⟩=some (.slice a9 n9 c9))
     (first|with_reducible exact bK.out|with_reducible exact S5.out|with_reducible exact S6.out)
     (first
      | (go_at_call 59;refine(ao.out _ (X:Int) _ _ _ j (bt.out _ CD.out) (bq.out _ CD.out)).mono ?_;rintro _ w5 ⟨⟨v5,rfl,r5,bI⟩,k5⟩;obtain⟨a5,n5,c5,rfl⟩:=az r5;have C5:Hid (Cs A w5):=CD.out.trans k5.cs;have S5:=Lib.hid (aw.out _ C5.out);have L:=Lib.hid (bx.out.kp ((Kp.refl A).drew.trans k5));have al:Hid (gI w5 (.agg #[.int .i64 (X:Int),.slice a5 n5 c5]) ⟨(X:Int),bw b j⟩):=⟨_,rfl,r5⟩;have ak:Hid (am (λg=>g=m) w2 w5):=bp.out.next (am.of_kp ((Kp.refl A).drew.trans k5));obtain⟨d,o,a4,ag⟩:=yV (e:=90) 103 fO underlying103 L.out bk ⟨(X:Int),bw b j⟩ _ D al.out;dsimp only at o;have aE:=Lib.hid a4;have C6:Hid (Cs A d):=C5.out.trans (Cs.grown ag L.out.nosolid);have S6:=Lib.hid (aw.out _ C6.out);have G6:Hid (am (λg=>g=m) w2 d):=ak.out.then ag (λg hg=>by cases hg;exact .inr rfl)))
    have aD:Hid (KM prog 3 d m (F+(j+1)) (HL (j+1))):=aE.out.congr λy=>G.out y
    have af:HL (j+1) ⟨(X:Int),bw b j⟩:=(G.out _).2 (.inl rfl);have zs:=kN d.drew;have aB:=Lib.hid (aD.out.kp (Kp.refl d).drew);have bL:=qg (X:Int);obtain⟨qd,f,H⟩:=sX (e:=90) 103 fO underlying103 zs aB.out ⟨(X:Int),bw b j⟩ af ad;obtain⟨bO,bJ,bN,rfl⟩:=az H;dsimp only [sdV] at f
    obtain⟨g0,_,_⟩:=S6.out;have I:Hid (∀ W,Cs d W->W.cell? ⟨wr.heap.size,0,none⟩=some (.int .i64 (X:Int))/\W.cell? ⟨w.heap.size+1,1,none⟩=some (.slice (some ⟨T,R,none⟩) M c6)/\W.cell? ⟨T,R+(k+j)*2,none⟩=some (.slice aj V ai)):=λW u=>⟨u.cell S6.out.1,bD.out _ (C6.out.trans u)⟩
    have C7:Hid (Cs d d.drew):=(Kp.refl d).drew.cs;have S7:=Lib.hid (I.out _ C7.out);clear bK S5 S6 L al ak ao D g0 aE o;go_wp2_with fail;go_region_held3 (λW=>W.cell? ⟨wr.heap.size,0,none⟩=some (.int .i64 (X:Int))/\W.cell? ⟨w.heap.size+1,1,none⟩=some (.slice (some ⟨T,R,none⟩) M c6)/\W.cell? ⟨T,R+(k+j)*2,none⟩=some (.slice aj V ai))
     (first|with_reducible exact S7.out|with_reducible exact S8.out|with_reducible exact S9.out)
     (first
      | (go_at_call 52;refine(N.out _ _ _ R8.out (bu.out _ (C6.out.trans C8.out))).mono ?_;rintro _ w9 ⟨rfl,k9⟩;have C9:=Lib.hid (C8.out.trans k9.cs);have S9:=Lib.hid (I.out _ C9.out);have K9:=Lib.hid (K8.out.trans k9))
      | (go_at_call 55;refine(ax.out _ _ j H).mono ?_;rintro _ w8 ⟨⟨v8,rfl,r8,bH⟩,k8⟩;obtain⟨a8,n8,c8,rfl⟩:=az r8;have R8:=Lib.hid r8;have K8:Hid (Kp d w8):=(Kp.refl d).drew.trans k8;have C8:=Lib.hid (K8.out.cs);have S8:=Lib.hid (I.out _ C8.out)))
    have KF:=Lib.hid (aD.out.kp K9.out);have GF:Hid (am (λg=>g=m) w w9):=(am.of_kp U.out).next (G6.out.next (am.of_kp K9.out));have bF:Hid (am (λg=>g=m) w2 w9):=G6.out.next (am.of_kp K9.out);clear S7 S8 S9 aB zs N ax R8 f H;go_wp2_with fail;go_ret2;exact⟨⟨_,_,rfl,.inr ⟨bv.out aI,rfl,cL _⟩⟩,GF.out⟩
  ·obtain rfl:j=J:=by omega
   have h1:¬(j:Int)<(j:Int):=by omega
   have Q:Hid (HP/\Rd wr (.slice ar nr cr) (aW b j)/\KM prog 3 wr m (F+j) (HL j)/\am (λg=>g=m) w wr):=⟨aF.out.2 aR.out,bQ.out.cs aG.out,aS.out,(am.of_kp U.out).next a0.out⟩;clear aP bb aN aF bd bc aV aO aQ aR aS;go_wp2_with fail;go_ret2;exact⟨⟨_,_,rfl,.inl ⟨Q.out.1,rfl,Q.out.2.1,Q.out.2.2.1⟩⟩,Q.out.2.2.2⟩
