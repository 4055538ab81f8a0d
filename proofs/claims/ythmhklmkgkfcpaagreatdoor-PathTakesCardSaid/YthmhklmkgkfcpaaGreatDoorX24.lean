import Derived.Test.YthmhklmkgkfcpaaGreatDoorX23
import Derived.Lib.SlKeysI
import Derived.Shelf.SlIterI.Nil
import Derived.Ground.GgzProg
set_option linter.all false
set_option maxHeartbeats 8000000
set_option maxRecDepth 100000
namespace Go.Proofs.YthmhklmkgkfcpaaGreatDoor
open Go.Maps Go.Proofs.Tryz Go.RowKit
variable {P:Program}{S:Sd->Prop}{k:TypeId}{m n:Nat}{w:World}
section
open Go.Sort
open Classical in
noncomputable def kQ (S:Sd->Prop) (x:Int):Sd:=if h:∃ s,S s/\s.node=x then Classical.choose h else ⟨0,[]⟩
theorem Hv {x:Int}(h:∃ s,S s/\s.node=x):S (kQ S x)/\(kQ S x).node=x:=by
 unfold kQ;rw[dif_pos h];exact Classical.choose_spec h
theorem Hw {D:DataW Value}(h:w.ownsMap P k eJ m n D)(K:Keyed P k)(A:P.underlying k=some (.int .i64)):
  (intKeys D).Nodup/\∀ x,x∈intKeys D↔Maps.has D (.int .i64 x)=true:=by
 obtain⟨es,t,j,_⟩:=h.entries K;obtain⟨r,g,o⟩:=h.keysOf;obtain rfl:es=r:=by rw[t] at g;simpa using g
 subst t;have d:∀ p∈es,∃ x,p.1=.int .i64 x:=λp z=>by
  obtain⟨v,y⟩:=o p z;obtain⟨x,_,u,_⟩:=Maps.keyOf_i64 A y;exact⟨x,u⟩
 refine⟨?_,λx=>?_⟩
 ·show(es.map λp=>Go.intOf p.1).Nodup
  refine MZ.2 (j.imp_of_mem λ{p q} c i l e=>l ?_);obtain⟨a,f⟩:=d p c;obtain⟨b,B⟩:=d q i;rw[f,B] at e ⊢;exact congrArg _ e
 ·rw[has_eq,Mv]
  show x∈es.map (λp=>Go.intOf p.1)↔_
  rw[KN];constructor
  ·rintro⟨p,c,rfl⟩
   obtain⟨a,f⟩:=d p c;exact⟨p,c,by rw[f];simp[Lit.sameKey,Go.intOf]⟩
  ·rintro⟨p,c,s⟩
   obtain⟨a,f⟩:=d p c;rw[f] at s;exact⟨p,c,by rw[f];simpa [Lit.sameKey,Go.intOf] using s⟩
theorem KM.keys (h:KM P k w m n S)(K:Keyed P k)(H:P.underlying k=some (.int .i64)):
  ∃ D,w.ownsMap P k eJ m n D/\Maps.size D<=n/\∀ e:List Int,e.Perm (intKeys D)->∃ l:List Sd,srt l/\(∀ y,y∈l↔S y)/\l.map (λs=>s.node)=e.mergeSort (λx y=>decide (x<=y))/\l.length=Maps.size D:=by
 obtain⟨⟨D,j,o,O⟩,N⟩:=h;obtain⟨Q,C⟩:=Hw j K H;have t:(intKeys D).length=Maps.size D:=by
  obtain⟨es,M,_,_⟩:=j.entries K;subst M;show(es.map λp=>Go.intOf p.1).length=_
  rw[Kw];rfl
 refine⟨D,j,j.size_le,λe G=>?_⟩;have v:(e.mergeSort (λx y=>decide (x<=y))).Perm e:=List.mergeSort_perm e _;have E:∀ a b c:Int,leI a b=true->leI b c=true->leI a c=true:=λa b c j o=>by simp only[leI,decide_eq_true_eq] at *;exact Int.le_trans j o
 have F:∀ a b:Int,(leI a b || leI b a)=true:=λa b=>by simp only[leI,ND,decide_eq_true_eq];exact Int.le_total a b
 have u:(e.mergeSort leI).Pairwise λa b=>leI a b=true:=List.pairwise_mergeSort E F e
 generalize R:e.mergeSort (λx y=>decide (x<=y))=L at *;have q:L.Pairwise λa b=>a<=b:=u.imp λ{a b} h=>by simpa [leI] using h
 have f:L.Perm (intKeys D):=v.trans G;have z:L.Nodup:=f.nodup_iff.2 Q;have A:L.Pairwise λa b=>a<b:=(List.Pairwise.and q z).imp λ{a b} h=>by
  obtain⟨j,o⟩:=h;have O:a≠b:=o;omega
 have d:∀ x∈L,S (kQ S x)/\(kQ S x).node=x:=λx i=>Hv ((o x).1 ((C x).1 (f.subset i)))
 have r:(L.map (kQ S)).map (λs=>s.node)=L:=by
  rw[List.map_map];refine(Ni (g:=id) λx i=>(d x i).2).trans (List.map_id _)
 refine⟨L.map (kQ S),?_,λy=>?_,r,by rw[Kw,f.length_eq,t]⟩
 ·unfold srt
  refine MZ.2 (A.imp_of_mem λ{a b} J I h=>?_);rw[(d a J).2,(d b I).2];exact h
 ·rw[KN]
  constructor
  ·rintro⟨x,i,rfl⟩
   exact(d x i).1
  ·intro B
   have i:y.node∈L:=f.symm.subset ((C _).2 ((o _).2 ⟨y,B,rfl⟩));obtain⟨a,b⟩:=d _ i;exact⟨y.node,i,N _ _ a B b⟩
end
end Go.Proofs.YthmhklmkgkfcpaaGreatDoor
namespace Go.Proofs
open Go.Shelf
def Tryz.keysA_ren:Go.Shelf.Ren:=⟨fun|7=>108|10=>149|n=>n,fun|23=>103|26=>3|3=>90|28=>164|0=>0|27=>163|33=>139|4=>4|n=>n,fun|n=>n⟩
theorem Tryz.keysA:Go.Proofs.SlLaysZI.n7 Tryz.prog Tryz.keysA_ren:={
 mixed:=by kernel_rfl
 f7:=⟨Tryz.f108.name,by decide,Tryz.func108.trans (congrArg some (by kernel_rfl))⟩
 f10:=⟨Tryz.f149.name,by decide,Tryz.func149.trans (congrArg some (by kernel_rfl))⟩
 t0:=Tryz.underlying0
 a0:=Tryz.isAgg0
 z0:=Tryz.sizeOf0
 v0:=Tryz.zeroValue0
 t4:=Tryz.underlying4
 a4:=Tryz.isAgg4
 z4:=Tryz.sizeOf4
 v4:=Tryz.zeroValue4
 t23:=Tryz.underlying103
 a23:=Tryz.isAgg103
 z23:=Tryz.sizeOf103
 v23:=Tryz.zeroValue103
 t26:=Tryz.underlying3
 a26:=Tryz.isAgg3
 z26:=Tryz.sizeOf3
 v26:=Tryz.zeroValue3
 t27:=Tryz.underlying163
 a27:=Tryz.isAgg163
 z27:=Tryz.sizeOf163
 v27:=Tryz.zeroValue163
 t28:=Tryz.underlying164
 a28:=Tryz.isAgg164
 z28:=Tryz.sizeOf164
 v28:=Tryz.zeroValue164
 t33:=Tryz.underlying139
 a33:=Tryz.isAgg139
 z33:=Tryz.sizeOf139
 v33:=Tryz.zeroValue139 }
def Tryz.sortedA_ren:Go.Shelf.Ren:=⟨fun|6=>107|8=>147|9=>148|11=>181|13=>183|12=>182|23=>221|24=>222|14=>212|15=>213|16=>214|17=>215|18=>216|19=>217|20=>218|21=>219|22=>220|25=>251|26=>252|27=>253|28=>254|29=>255|30=>256|31=>269|n=>n,fun|26=>3|28=>164|24=>34|0=>0|3=>3|37=>205|48=>247|50=>249|4=>4|40=>241|39=>240|45=>143|5=>5|9=>9|51=>270|55=>274|57=>288|58=>69|33=>139|n=>n,fun|n=>n⟩
theorem Tryz.sortedA:Go.Proofs.SlLaysZI.n6 Tryz.prog Tryz.sortedA_ren:={
 mixed:=by kernel_rfl
 f6:=⟨Tryz.f107.name,by decide,Tryz.func107.trans (congrArg some (by kernel_rfl))⟩
 f8:=⟨Tryz.f147.name,by decide,Tryz.func147.trans (congrArg some (by kernel_rfl))⟩
 f11:=⟨Tryz.f181.name,by decide,Tryz.func181.trans (congrArg some (by kernel_rfl))⟩
 t0:=Tryz.underlying0
 a0:=Tryz.isAgg0
 z0:=Tryz.sizeOf0
 v0:=Tryz.zeroValue0
 t24:=Tryz.underlying34
 a24:=Tryz.isAgg34
 z24:=Tryz.sizeOf34
 v24:=Tryz.zeroValue34
 t26:=Tryz.underlying3
 a26:=Tryz.isAgg3
 z26:=Tryz.sizeOf3
 v26:=Tryz.zeroValue3
 t28:=Tryz.underlying164
 a28:=Tryz.isAgg164
 z28:=Tryz.sizeOf164
 v28:=Tryz.zeroValue164
 i26:=by kernel_rfl }
end Go.Proofs
namespace Go.Proofs.YthmhklmkgkfcpaaGreatDoor
open Go.Maps Go.Proofs.Tryz Go.RowKit
variable {P:Program}{S:Sd->Prop}{k:TypeId}{m n:Nat}{w:World}
section
open Go.Shelf Go.Sort
theorem Ia (m:Nat):AnyZI.SortsIn prog sortedA_ren Fence.wide m:=
 ⟨λe c a f W g b d=>callsIn_wide.2 (slices_Sort_int e c a f W g b d),
  λp a W=>callsIn_wide.2 (slices_Sort_int_none p a W)⟩
theorem Ib (m:Nat)(W:World):Calls prog 108 #[.map (some m)] W λe w'=>e=.returned (.func (.func 149) #[] #[.pointer (some ⟨W.heap.size,0,none⟩)])/\w'=W.alloc (.cells #[.map (some m)] 103):=
 callsIn_wide.1 (AnyZI.keys_in keysA Fence.wide 5 trivial rfl (some m) W)
theorem Ic (w:World)(h:KM prog 3 w m n S)(I:n<=1000000):
  Calls prog 107 #[.func (.func 149) #[] #[.pointer (some ⟨w.heap.size,0,none⟩)]] (w.alloc (.cells #[.map (some m)] 103)) λe w'=>
   (∃ v l,e=.returned v/\srt l/\(∀ y,y∈l↔S y)/\l.length<=n/\OI 3 w' w.heap.size v (l.map (λs=>s.node)))/\Kp w w':=by
 obtain⟨D,p,J,C⟩:=h.keys fT underlying3;have f:=p.lt;have c:SeqGives Fence.wide 2 prog 149 #[.pointer (some ⟨w.heap.size,0,none⟩)] encZ (λd=>d.Perm (intKeys D)) (Maps.size D) (w.alloc (.cells #[.map (some m)] 103)):=
  AnyZI.keys_gives (ρ:=keysA_ren) { keysA with } Fence.wide _ trivial rfl (by omega) w.heap.size m n D _ (by simp) (by simp) (by
   obtain⟨es,b,i,G,x,B⟩:=p;exact⟨es,b,(Below.heap_alloc _ _ m f).trans i,G,x,B⟩)
 have q:=AnyZI.sorted_in sortedA Fence.wide 5 trivial trivial trivial trivial rfl (by omega) (Ia _) (enters_of func148 (by kernel_rfl) rfl) 149 #[.pointer (some ⟨w.heap.size,0,none⟩)] trivial (enters_of func149 (by kernel_rfl) rfl) _ _ (by unfold maxLen;omega) (by omega) _ c;change CallsIn _ _ prog 107 _ _ _ at q;refine(callsIn_wide.1 q).mono ?_;rintro e w' ⟨v,d,rfl,A,a,_,i⟩;obtain⟨l,t,r,o,H⟩:=C d A;have u:Kp w w':=((NQ w).alloc _).trans i;refine⟨⟨v,l,rfl,t,r,by omega,?_⟩,u⟩;have z:(l.map (λs=>s.node)).length=d.length:=by rw[o,List.length_mergeSort]
 unfold OI;rw[Kw,z,o];exact⟨a.1,a.2.imp id fun⟨g,k,j,F,E,rest⟩=>⟨g,k,j,F,by rw[JY] at E;omega,rest⟩⟩
end
theorem qE (x:Int)(a:Option Addr)(n c:Nat)(w:World):(Instr.field 90 (.agg #[.int .i64 x,.slice a n c]) 1).run prog w=.ok (.slice a n c) w:=by kernel_rfl
theorem Id {l:List Sd}{k:Nat}(h:k<l.length):l.take (k+1)=l.take k++[aG l k]:=by
 rw[JZ h,<-eV h]
theorem zg (w:World)(h:KM prog 3 w m n S)(hn:n<=100000)(A:∀ s,S s->-9223372036854775808<=s.node/\s.node<=9223372036854775807)(B:∀ s,S s->s.seed.length<=2000):
  Calls prog 61 #[.map (some m)] w λe w'=>(∃ v l,e=.returned v/\srt l/\(∀ y,y∈l↔S y)/\GZ bQ 90 (λg=>g<w.heap.size) w' w.heap.size v l)/\Kp w w':=by
 have HK:=JE (λW=>Ib m W);have J:=JE (Ic w h (by omega));have HM:=JE h;have aj:=JE (λW (v:Value) (l:List UInt8) (hv:Rd W v l) (hl:l.length<=2000)=>rL v l W hv (by omega));have H:=JE A;have K:=JE B;clear h A B;go_enter func61,ntmps61;go_wp2_with fail;refine(HK.out w).mono ?_;rintro _ _ ⟨rfl,rfl⟩;go_wp2_with fail;refine J.out.mono ?_;rintro _ p ⟨⟨v1,l,rfl,hs,b,aa,Y⟩,k1⟩;obtain⟨a1,c1,rfl,p1,s1⟩:=Y.ri.shape;rw[Kw] at *;have z:=JE (JN Y k1);have L:=JE b;have HS:=JE hs;obtain⟨N,hN⟩:∃ N,l.length=N:=⟨_,rfl⟩;have d:=JE (λk (h:k<l.length)=>Id h);have I:Hid (l.take l.length=l):=Kz;have f:Hid (∀ k,k<l.length->S (aG l k)/\(l.map (λs=>s.node)).getD k 0=(aG l k).node):=λk F=>⟨(b _).1 (nU F),by
  rw[JF,KX,JG F,eV F];rfl⟩
 rw[hN] at d I f aa p1 z ⊢;clear Y k1 b hs hN J HK;go_wp2_with fail;go_loopw[3,10] (λx y wr=>∃ j:Nat,j<=N/\y=.int .i64 (j:Int)/\GZ bQ 90 (λg=>g<p.heap.size) wr p.heap.size x (l.take j)/\Kp p wr) (λ_ y _=>(N - (intOf y).toNat))
 case atStart=>exact⟨0,JW _,rfl,by rw[LZ];exact GZ.nil _ _ _,NQ _⟩
 case round=>
  obtain⟨j,hj,rfl,a,D⟩:=hrel;have i:=JE (JN a D);obtain⟨ax,nx,cx,rfl⟩:=Oc a.gl;clear a D;by_cases c:j<N
  ·obtain⟨gq,oq,rfl,_,G⟩:=(z.out.1.ri.kp i.out.2).at j c
   have c0:=G j c;obtain⟨U,T⟩:=f.out j c;rw[T] at c0;have ae:=JE (d.out j c);obtain⟨Q,P⟩:=H.out _ U;have r:=JE (K.out _ U);obtain⟨u,O⟩:Sd:=aG l j;generalize ab:aG l j=SD at *;obtain⟨u,O⟩:=SD;dsimp only at c0 Q P r T
   have E:Go.keyOf prog 3 (.int .i64 u)=some (.int .i64 u):=keyOf_int_mk underlying3 (Mf (by omega));have i1:IntKind.i64.wrap ((j:Int)+1)=(j:Int)+1:=JI _ (by omega);have i3:(j:Int)<(N:Int):=by omega
   have af:Hid (KM prog 3 wr m n S):=HM.out.kp (z.out.2.trans i.out.2);have zs:=kR wr;have ak:=qE u;have ad:Hid ((l.take j).length+1<=1000000):=by unfold Hid;rw[Ki];omega
   generalize l.take j=TK at *;clear G d f H K ab T;go_wp2_with(at_lookup;go_loud (refine Es (e:=90) rfl _ _ 103 rfl fT underlying103 zs rfl af.out ⟨u,O⟩ U rfl E ?_;intro q X;obtain⟨aq,nq,al,rfl⟩:=aA X;dsimp only [sdV]))
   refine(aj.out wr _ O X r.out).mono ?_;rintro _ w5 ⟨vB,rfl,M,V⟩;obtain⟨aB,nB,cB,rfl⟩:=aA M.rd;have ag:Hid (∀ g,(Value.slice ax nx cx).ownBlock=some g->g<wr.heap.size):=λg t=>(i.out.1.lt g t).2
   have ai:Hid (bQ.R (λg=>some g=(Value.slice ax nx cx).ownBlock\/g<p.heap.size) w5 [.int .i64 u,.slice aB nB cB] ⟨u,O⟩):=
    ⟨_,rfl,M.rd,dZ (C:=wr.heap.size) (λg t=>(KU M g t).1) λg t=>t.elim (λh=>ag.out g h.symm) λh=>by have:=i.out.2.size;omega⟩
   have ah:=JE (i.out.1.kp V);have KB:=JE (i.out.2.trans V);clear X M V zs c0;go_wp2_with(at_builtin;go_loud (refine fL (S:=bQ) (Z:=λg=>g<p.heap.size) (o:=⟨some 23,_,_,_,_,_⟩) sdK rfl _ _ rfl p.heap.size _ TK rfl (ah.out.kp ((NQ _).alloc _)) _ [_] rfl (SE.litZ (S:=bQ) 90 ai.out rfl) (by exact ad.out) (Kd KB.out.size (by simp)) ?_;intro vF wh oh gh _;have kF:Hid (Kp p wh):=NS (KB.out.alloc _) gh (λk F=>(i.out.1.lt k F).1)))
   rw[<-ae.out] at oh;go_roundw
   case rel=>exact⟨j+1,by omega,by first|rfl|(rw[i1];rfl),oh,kF.out⟩
   case measure=>simp[intOf];omega
  ·obtain rfl:j=N:=by omega
   have h1:¬(j:Int)<(j:Int):=by omega
   have a:=i.out.1;rw[I.out] at a;have HF:=JE (JN ((a.solidly λg t=>.inr (.inl (show g<p.heap.size from JV t z.out.2.size))).mono z.out.2.size) (z.out.2.trans i.out.2));clear a d f;go_wp2_with fail;go_ret;exact⟨⟨_,rfl,l,HS.out,L.out,HF.out.1⟩,HF.out.2⟩
theorem aD.pub32 {t:List Nod}{K:Nat}(h:aD t K){x:Nat}(a:(ats t x).kind≠0):(ats t x).pub.length=32:=by
 rcases h.okA x with e|⟨_,b,_⟩
 ·rw[e] at a;exact absurd rfl a
 ·exact b.2.2
theorem eo.over {w':World}{gc a:Nat}{s:List UInt8}{Y:Nat->Prop}(h:eo w gc a s n)(b:az Y w w')(j:∀ g,Y g->cG w g)(i:¬Y gc)(f:¬Y a):eo w' gc a s n:=by
 obtain⟨e,⟨v,d,c⟩,k⟩:=h;exact⟨(b.block gc (JK.1 e).1 i).trans e,⟨v,(b.block a (JK.1 d).1 f).trans d,c.1.step8 b j,c.2⟩,k⟩
structure oF (wb:World)(Y:Nat->Prop)(gm gc gs gP:Nat)(pv rowv:Value)(S:Sd->Prop)(secret:List UInt8)(n:Nat)(l:List St)(j:Nat)(w:World):Prop where
 mk ::
 km:bj prog 3 (λg=>some g=rowv.ownBlock) w gm (1+j) S
 once:eo w gc gs secret n
 box:Bx w gP 27 #[pv,rowv]
 row:GZ dc 74 (λg=>g<wb.heap.size) w wb.heap.size rowv l
 step:az Y wb w
theorem Iv (aa v1 v2 v3:Value)(t:List Nod)(K i:Nat)(seed secret info:List UInt8)(w:World)(hu:NL w aa t)(hr:aD t K)(hT:bl t K)(h1:Rd w v1 seed)(h2:Rd w v2 secret)(h3:Rd w v3 info)(F:(ats t (2*i)).kind=1)
  (q1:seed.length=32) (q2:secret.length=32) (cm:info.length<=1400) (aM:Tab w):
  Calls prog 20 #[aa,.int .i64 (i:Int),v1,v2,v3] w λe w'=>(∃ v,e=.returned (.tuple #[v,.int .i64 0])/\MV w' v ⟨eE t (i:Int) (aC t i K) (bS t K i seed secret info),cX [⟨2*(i:Int),seed⟩] secret (aC t i K),bS t K i seed secret info,gR secret (ixS t i K).length⟩)/\Kp w w':=by
 obtain⟨z1,z2,z3⟩:=hr.small;have ej:=bP hr.le;have da:=Oe (t:=t) (x:=2*i) (by rw[F];decide);have hi:i<2 ^ K:=by omega
 have ad:=(hr.there_iff i).2 F;have ds:(ixS t i K).length<=10:=Kd (kC t i K) hr.le;obtain⟨cg,ab⟩:=gy t i K;have dK:=JE (λW (b:Kp w W)=>qA aa t K i W (hu.kp b) hr F (aM.kp b));have dR:=JE (λW (aa:Value) (s:List UInt8) (E:Rd W aa s)=>yD aa s W E);have ec:=JE (λW (v:Value) (hv:SL W v [⟨2*(i:Int),seed⟩])=>tq v [⟨2*(i:Int),seed⟩] W hv (Mp _ _) (by simp) (λk hk=>by
  have:k=0:=by simp at hk;omega
  subst this;show -9223372036854775808<=2*(i:Int)/\2*(i:Int)<=9223372036854775807
  omega))
 have cJ:=JE (λW (b:Kp w W)=>zl v2 secret (ixS t i K).length W (h2.kp b) q2 (by omega));have dU:=JE (λW (b:Kp w W)=>Ii v2 secret W (h2.kp b));have bu:=JE (fun(w0 W:World) (uu n s q vs:Value) (j m gc gs:Nat) (x:Int) (d:j<(ixS t i K).length) (h0:Kp w0 W) (hw:Kp w w0) (hu:WIn w0 uu n s t K i) (hq:RI w0 q ((aT t i K).getD j [])) (E:RZ (λg=>g=gc) W vs (aU secret j)) (ho:eo W gc gs secret m) (es:w0.heap.size<=gc) (hm:m<=100000)=>
  Im uu n s q vs v3 t K i ((aT t i K).getD j []) x (aU secret j) info secret m gc gs w0 W h0 hu hq E (h3.kp hw) ho es (λa ha=>by
   obtain⟨_,f2⟩:=lV (a:=j) hr hi (by rw[ab];exact d);obtain⟨y,y1,y2,y3⟩:=f2 a ha;exact⟨y,y1,y2,hr.pub32 y3⟩) (lV (a:=j) hr hi (by rw[ab];exact d)).1 hm q2 (by rw[jS q2];omega) cm)
 have eU:Hid (nS (aT t i K) 0=0):=rfl;have bC:=JE (λj (h:j<(ixS t i K).length)=>xu (who:=aT t i K) (k:=j) (by rw[ab];exact h));have bD:Hid (∀ j,j<=(ixS t i K).length->nS (aT t i K) j<=20480):=λj d=>by
  have:=xv (who:=aT t i K) (M:=2048) (λk hk=>(lV (a:=k) hr hi hk).1) j (by rw[ab];exact d);omega
 have bE:=JE (λj (h:j<(ixS t i K).length)=>Ei (t:=t) (secret:=secret) (info:=info) (who:=aT t i K) (k:=j) (by rw[ab];exact h));have d1:Hid ((makeS t secret info secret 0 (aT t i K)).length=(ixS t i K).length):=by unfold Hid;rw[pF,ab]
 have ci:(aC t i K).Nodup:=lT t i K;have ct:∀ a,a∈[(⟨2*(i:Int),seed⟩:Sd)]->∀ z∈aC t i K,a.node≠(z:Int):=λa ha z hz=>by
  rw[Lz] at ha;subst ha;have:=ik (fP hz);show 2*(i:Int)≠_
  omega
 have bx:=JE (λj (h:j<(ixS t i K).length) (z:Sd)=>yV (own:=λy=>y∈[(⟨2*(i:Int),seed⟩:Sd)]) (s:=secret) (n:=j) ci ct (by rw[cg];exact h) z);have eN:=JE (λz=>yU (own:=λy=>y∈[(⟨2*(i:Int),seed⟩:Sd)]) (s:=secret) (xs:=aC t i K) z);have au:Hid (∀ r:List Sd,srt r->(∀ y,y∈r↔fJ (λy=>y∈[(⟨2*(i:Int),seed⟩:Sd)]) secret (aC t i K) (ixS t i K).length y)->r=cX [⟨2*(i:Int),seed⟩] secret (aC t i K)):=λr hr hm=>
  yW ci (Mp _ _) ct hr (by rw[cg];exact hm)
 have bz:=JE (λa (h:a<(ixS t i K).length)=>kP (t:=t) (i:=i) (m:=K) h);have aQ:Hid (∀ j,j<(ixS t i K).length->(aC t i K).getD j 0<=100000):=λj d=>by
  have hm:(aC t i K).getD j 0∈aC t i K:=by rw[JF,JG (by omega)];exact Ko _
  have:=eP hi (fP hm);have hl:=hr.len;omega
 have av:Hid (∀ j,j<=(ixS t i K).length->∀ s,fJ (λy=>y∈[(⟨2*(i:Int),seed⟩:Sd)]) secret (aC t i K) j s->(-9223372036854775808<=s.node/\s.node<=9223372036854775807)/\s.seed.length<=2000):=λj d s E=>by
  rcases E with E|⟨a,ha,rfl⟩
  ·rw[Lz] at E
   subst E;refine⟨⟨?_,?_⟩,?_⟩
   ·show _<=2*(i:Int);omega
   ·show 2*(i:Int)<=_;omega
   ·show seed.length<=_;omega
  ·have:=aQ.out a (by omega)
   refine⟨⟨?_,?_⟩,?_⟩
   ·show _<=(((aC t i K).getD a 0:Nat):Int);omega
   ·show(((aC t i K).getD a 0:Nat):Int)<=_;omega
   ·show(bo secret a).length<=_;unfold bo;rw[jR];omega
 have d8:Hid (PIn w v1 v2 ⟨[],[]⟩->True):=λ_=>trivial
 have cM:=JE (λW (b:Kp w W) (n s x y:Value) (ak:WIn W aa n s t K i) (hp:PIn W x y (bS t K i seed secret info))=>by
  have aK:=lU t K i seed secret info;exact ze aa n s x y t K i (bS t K i seed secret info) W ak hr hT F hp aK.2.1 (by rw[aK.1,ab]) (λa ha=>(aK.2.2 a (by omega)).2) (aM.kp b))
 have d0:Hid (bS t K i seed secret info=⟨dX seed,makeS t secret info secret 0 (aT t i K)⟩):=by unfold Hid bS;rw[(eC q1).2]
 have bJ:=JE (λj (h:j<(ixS t i K).length)=>sA secret h);have bI:=JE (jU secret (ixS t i K).length);have dM:=JE (λW (x:Int) (q v:Value) (c:List Int) j (hq:RI W q c) (hv:Rd W v (aU secret j))=>zf x q v c (aU secret j) W hq hv (by rw[jS q2 j];omega));have eM:Hid (∀ j,bH (aU secret j) eI=bo secret j):=λj=>rfl
 simp only[eM.out] at dM;have bB:=JE (λW gm j (d:j<=(ixS t i K).length) (h:KM prog 3 W gm (1+j) (fJ (λy=>y∈[(⟨2*(i:Int),seed⟩:Sd)]) secret (aC t i K) j))=>zg W h (by omega) (λs E=>(av.out j d s E).1) (λs E=>(av.out j d s E).2));have aV:Hid (∀ j,stS t secret info (aT t i K) j=⟨dX (bo secret j),de t secret info (aU secret j) (nS (aT t i K) j) ((aT t i K).getD j [])⟩):=λj=>rfl
 have i2:IntKind.i64.wrap (2*(i:Int))=2*(i:Int):=JI _ (by omega);have HU:=JE hu;have H1:=JE h1;have H3:=JE h3;generalize dr:bS t K i seed secret info=MP at *;generalize dq:makeS t secret info secret 0 (aT t i K)=R at *;generalize dn:cX [⟨2*(i:Int),seed⟩] secret (aC t i K)=OE at *;generalize dv:fJ (λy=>y∈[(⟨2*(i:Int),seed⟩:Sd)]) secret (aC t i K)=HL at *;generalize du:eE t (i:Int) (aC t i K) MP=LP at *;generalize dp:nS (aT t i K)=G at *;obtain⟨a,c,rfl,p1,s1⟩:=hu.shape;obtain⟨a1,c1,rfl,_,_⟩:=h1.shape;obtain⟨a2,c2,rfl,_,_⟩:=h2.shape;obtain⟨a3,n3,c3,rfl⟩:=aA h3;have e3:Hid (∀ j,(aU secret j).length=32):=λj=>jS q2 j
 generalize aC t i K=ST at *;obtain⟨M,hM⟩:∃ M,(ixS t i K).length=M:=⟨_,rfl⟩;have aw:Hid ((dg t i K).length=M):=by unfold Hid;rw[iB,hM]
 rw[hM] at ds cJ bu bC bD bE d1 bx au bz aQ av bJ bI bB ⊢;generalize ew:t.length=N at *;rw[q1] at *;rw[q2] at *;clear hu hr hT h1 h2 h3 F cm aM z2 z3 ej da hi ad cg ab ci ct dr dq dn dv du dp hM ew q1 q2 av d8;unfold maxLen at s1;go_enter func20,ntmps20;go_wp2_with fail;obtain⟨w1,be⟩:∃ w1,w.alloc (.cells #[.slice none 0 0,.slice none 0 0,.slice none 0 0,.slice none 0 0,.slice none 0 0] 47)=w1:=⟨_,rfl⟩;have ed:Hid (Bx w1 w.heap.size 47 #[.slice none 0 0,.slice none 0 0,.slice none 0 0,.slice none 0 0,.slice none 0 0]):=by unfold Hid;rw[<-be];exact Oa w _ _
 have K1:Hid (Kp w w1):=by unfold Hid;rw[<-be];exact(NQ _).alloc _
 rw[be];clear be;refine(dK.out w1 K1.out).mono ?_;rintro _ w2 ⟨⟨nv,sv,rfl,ak⟩,k2⟩;obtain⟨an,nn,cn,rfl⟩:=ak.nodes.sl;obtain⟨aN,af,rfl,q5,q6⟩:=Ob ak.steps;rw[aw.out] at ak q5 ⊢;have bw:=JE ak;have K2:=JE (K1.out.trans k2);have dJ:=JE k2;clear ak k2 dK;go_wp2_with fail;obtain⟨w3,bd⟩:∃ x,w2.alloc (.cells #[.slice a N c,.int .i64 (i:Int),.slice an nn cn,.slice aN M af] 95)=x:=⟨_,rfl⟩;have ai:Hid (Bx w3 w2.heap.size 95 #[.slice a N c,.int .i64 (i:Int),.slice an nn cn,.slice aN M af]):=by unfold Hid;rw[<-bd];exact Oa w2 _ _
 have ag:Hid (Kp w2 w3):=by unfold Hid;rw[<-bd];exact(NQ _).alloc _
 try rw[bd]
 clear bd;go_wp2_with fail;refine(dR.out w3 _ seed (H1.out.kp (K2.out.trans ag.out))).mono ?_;rintro _ p ⟨⟨pv,rfl,rp,np⟩,k4⟩;obtain⟨ap,n4,c4,rfl⟩:=aA rp;have RP:=JE rp;have NP:=JE np;have bs:=JE k4;clear rp np k4;go_wp2_with fail;obtain⟨w5,ay⟩:∃ x,p.alloc (.cells #[.slice ap n4 c4,.slice none 0 0] 27)=x:=⟨_,rfl⟩;have cO:Hid (Bx w5 p.heap.size 27 #[.slice ap n4 c4,.slice none 0 0]):=by unfold Hid;rw[<-ay];exact Oa p _ _
 have bq:Hid (Kp p w5):=by unfold Hid;rw[<-ay];exact(NQ _).alloc _
 have I:Hid (w5.heap.size=p.heap.size+1):=by unfold Hid;rw[<-ay];simp
 try rw[ay]
 clear ay;go_wp2_with fail;have dG:Hid (Kp w w5):=((K2.out.trans ag.out).trans bs.out).trans bq.out;have a0:Hid (SL (w5.alloc (.cells #[.int .i64 (2*(i:Int)),.slice a1 32 c1] 90)) (.slice (some ⟨p.heap.size+1,0,none⟩) 1 1) [⟨2*(i:Int),seed⟩]):=by
  have L:=SE.lit1 (S:=bQ) (w:=w5) (vs:=[.int .i64 (2*(i:Int)),.slice a1 32 c1]) (x:=⟨2*(i:Int),seed⟩) (cs:=#[.int .i64 (2*(i:Int)),.slice a1 32 c1]) 90 ⟨_,rfl,H1.out.kp dG.out,br.none _⟩ rfl;rw[I.out] at L;exact L
 obtain⟨P,cf⟩:∃ x,w5.alloc (.cells #[.int .i64 (2*(i:Int)),.slice a1 32 c1] 90)=x:=⟨_,rfl⟩;have am:Hid (Kp w5 P):=by unfold Hid;rw[<-cf];exact(NQ _).alloc _
 rw[cf] at a0 ⊢;clear cf;refine(ec.out P _ a0.out).mono ?_;rintro _ w7 ⟨⟨rfl,cj⟩,k7⟩;have a4:=JE cj;have bp:=JE k7;have cC:Hid (Kp w w7):=(dG.out.trans am.out).trans k7;have e0:Hid (P.heap.size<w7.heap.size):=cj.lt;have dx:=(ai.out.kp (((bs.out.trans bq.out).trans am.out).trans k7)).cell 3;simp only[JT,JS,JU] at dx;clear cj k7 ec a0;go_wp2_with fail;refine(cJ.out w7 cC.out).mono ?_;rintro _ u ⟨⟨ov,lv,rfl,ho,hl,hf⟩,k8⟩;obtain⟨ae,ce,rfl,q7,q8⟩:=Ob ho;rw[bI.out] at ho q7 hf ⊢;obtain⟨al,nl,cl,rfl⟩:=aA hl;have bG:=JE (JN ho hf);have d4:=JE hl;have T:=JE k8;clear ho hf hl k8 cJ dx;go_wp2_with fail;refine(dU.out u (cC.out.trans T.out)).mono ?_;rintro _ A ⟨⟨rfl,bg⟩,k9⟩;have dT:=JE bg;have cH:=JE k9;have fd:Hid (Kp w A):=(cC.out.trans T.out).trans k9;have dI:Hid (Kp w3 A):=(((((bs.out.trans bq.out).trans am.out).trans bp.out).trans T.out).trans k9);have b8:Hid (KM prog 3 A P.heap.size (1+0) (HL 0)):=((a4.out.kp (T.out.trans k9)).mono (by simp)).congr λz=>eN.out z
 have eb:=JE (cO.out.kp (((am.out.trans bp.out).trans T.out).trans k9));have dw:=(ai.out.kp dI.out).cell 3;simp only[JT,JS,JU] at dw;have HZ:Hid (w.heap.size<w1.heap.size/\w1.heap.size<=w2.heap.size/\w2.heap.size<w3.heap.size/\w3.heap.size<=p.heap.size/\p.heap.size<w5.heap.size/\w5.heap.size<=P.heap.size/\P.heap.size<w7.heap.size/\w7.heap.size<=u.heap.size/\u.heap.size+1<A.heap.size):=
  ⟨(JK.1 ed.out).1,dJ.out.size,(JK.1 ai.out).1,bs.out.size,(JK.1 cO.out).1,am.out.size,e0.out,T.out.size,(JK.1 bg.cnt).1⟩
 have bF:Hid (oF A (λ_=>False) P.heap.size (u.heap.size+1) u.heap.size p.heap.size (.slice ap n4 c4) (.slice none 0 0) (HL 0) secret 0 [] 0 A):=⟨b8.out.kz.mono (λg e=>by cases e),bg,eb.out,GZ.nil _ _ _,NU _ _⟩;have b9:=JE (a4.out.kp T.out);have cd:=JE (cO.out.kp ((am.out.trans bp.out).trans T.out));clear bg k9 dU a4 b8;go_wp2_with fail;have eF:∃ Y:Nat->Prop,∀ g,Y g↔(g=P.heap.size\/g=u.heap.size+1\/g=p.heap.size):=⟨_,λ_=>Iff.rfl⟩;obtain⟨Y,ev⟩:=eF;have HY:=JE ev;have bX:Hid (oF A Y P.heap.size (u.heap.size+1) u.heap.size p.heap.size (.slice ap n4 c4) (.slice none 0 0) (HL 0) secret 0 [] 0 A):=⟨bF.out.km,bF.out.once,bF.out.box,bF.out.row,NU _ _⟩;have bW:Hid (∀ W pv rv S n l j,oF A Y P.heap.size (u.heap.size+1) u.heap.size p.heap.size pv rv S secret n l j W->(∃ a n c,pv=.slice a n c)->∀ g,Y g->cG W g):=λW pv rv S n l j h ei g o=>by
  obtain⟨fc,e6,fa,rfl⟩:=ei;obtain⟨ar,V,cr,rfl⟩:=Oc h.row.gl;rcases (HY.out g).1 o with rfl|rfl|rfl
  ·exact cG.map h.km.km.nosolid
  ·exact cG.box h.once.cnt λj z d=>by
    match j with
    | 0=>cases d;exact λn e=>by cases e
    | j+1=>simp at d
  ·exact cG.box h.box λj z d=>by
    match j with
    | 0=>cases d;exact λn e=>by cases e
    | 1=>cases d;exact λn e=>by cases e
    | j+2=>simp at d
 have eW:Hid (R.take 0=[]):=LZ;go_loopw[64] (λz wr=>∃ (j:Nat) (rv:Value),j<=M/\z=.int .i64 (j:Int)/\oF A Y P.heap.size (u.heap.size+1) u.heap.size p.heap.size (.slice ap n4 c4) rv (HL j) secret (G j) (R.take j) j wr) (λz _=>(M - (intOf z).toNat))
 case atStart=>exact⟨0,_,JW _,rfl,by rw[eW.out,eU.out];exact bX.out⟩
 case round=>
  obtain⟨j,rv,d,rfl,f⟩:=hrel;have J:=JE f;have hz:=HZ.out;have D:Hid (Kp w3 wr):=Kp.stepOld dI f.step (λg o=>by rcases (HY.out g).1 o with rfl|rfl|rfl <;> omega);obtain⟨ar,V,cr,rfl⟩:=Oc f.row.gl;have e4:=JE (bW.out wr _ _ _ _ _ _ f ⟨_,_,_,rfl⟩);have O:Hid (∀ g,(Value.slice ar V cr).ownBlock=some g->A.heap.size<=g/\g<wr.heap.size):=f.row.lt;clear f hz dw;by_cases Q:j<M
  ·have hz:=HZ.out
   obtain⟨b1,o1,y1,q,e1,_,c0,dB,rq⟩:=aJ.sp (i:=j) (bw.out.kp ag.out).steps (by rw[aw.out];exact Q);rw[aw.out] at e1;simp only[JR] at e1;obtain⟨rfl,_,rfl⟩:=e1;rw[bz.out j Q] at c0 rq;dsimp only at c0 rq
   obtain⟨aq,nq,cq,rfl⟩:=rq.sl;have eg:=aQ.out j Q;have aS:=JE (bx.out j Q);have aZ:=JE (bE.out j Q);rw[aV.out j] at aZ;have bU:=JE (bC.out j Q);have dY:=JE (bD.out j d);have db:(R.take j).length+1<=1000000:=by rw[Ki];omega
   have h8:∀ g,Y g->cG u g:=λg o=>by
    rcases (HY.out g).1 o with rfl|rfl|rfl
    ·exact cG.map (b9.out.nosolid)
    ·exact cG.map λE=>by have:=E.lt;omega
    ·exact cG.box cd.out λj z d=>by
      match j with
      | 0=>cases d;exact λn e=>by cases e
      | 1=>cases d;exact λn e=>by cases e
      | j+2=>simp at d
   have dl:br Y (.slice ae M ce):=λx n c e h0 hy=>by
    have:=bG.out.2 x n c e h0;have cm:=SE.inside bG.out.1 x n c e h0;rcases (HY.out _).1 hy with L|L|L
    ·exact this (by omega)
    ·omega
    ·exact this (by omega)
   obtain⟨b2,o2,y2,ve,e2,cT,bf⟩:=aJ.bytesAt (i:=j) bG.out.1 h8 dl (by rw[bI.out];exact Q);rw[bI.out] at e2;simp only[JR] at e2;obtain⟨rfl,_,rfl⟩:=e2;rw[show kE (em secret M) j=aU secret j from bJ.out j Q] at bf;obtain⟨a9,n9,c9,rfl⟩:=aA (bf u (NU _ _)).2;have dL:=JE bf;have eG:=JE cT;have dF:Hid (az Y u wr):=(NY cH.out).next J.out.step;obtain⟨X,hX⟩:∃ X,ST.getD j 0=X:=⟨_,rfl⟩;rw[hX] at c0 eg aS;obtain⟨CV,bk⟩:∃ C,(aT t i K).getD j []=C:=⟨_,rfl⟩;rw[bk] at rq aZ bU;have eO:=JE (λW (b:Kp w3 W)=>rq.kp b);have aR:=JE (fun(W:World) (x:Int) (h0:Kp w3 W) (E:RZ (λg=>g=u.heap.size+1) W (.slice a9 n9 c9) (aU secret j)) (ho:eo W (u.heap.size+1) u.heap.size secret (G j))=>
    bu.out w3 W (.slice a N c) (.slice an nn cn) (.slice (some ⟨b1,o1,none⟩) M af) (.slice aq nq cq) (.slice a9 n9 c9) j (G j) (u.heap.size+1) u.heap.size x Q h0 (K2.out.trans ag.out) (bw.out.kp ag.out) (by rw[bk];exact rq) E ho (by have:=HZ.out;omega) (by have:=dY.out;omega))
   rw[bk] at aR;have i1:IntKind.i64.wrap ((j:Int)+1)=(j:Int)+1:=JI _ (by omega);have i3:(j:Int)<(M:Int):=by omega
   have bL:Go.keyOf prog 3 (.int .i64 (X:Int))=some (.int .i64 (X:Int)):=keyOf_int_mk underlying3 (Mf (by omega));have ck:=bL;have et:1+j<maxLen:=by unfold maxLen;omega
   have ey:=D.out.cell c0;have ex:=D.out.cell dB;obtain⟨B,bi⟩:∃ x,wr.alloc (.cells #[.int .i64 (X:Int),.slice aq nq cq] 99)=x:=⟨_,rfl⟩;have KQ:Hid (Kp wr B):=by unfold Hid;rw[<-bi];exact(NQ _).alloc _
   have ea:Hid (Bx B wr.heap.size 99 #[.int .i64 (X:Int),.slice aq nq cq]):=by unfold Hid;rw[<-bi];exact Oa wr _ _
   have cS:¬Y wr.heap.size:=λhy=>by have:=J.out.step.size;rcases (HY.out _).1 hy with L|L|L <;> omega
   have cI:=JE cS;have I:Hid (∀ W,az Y B W->W.cell? ⟨wr.heap.size,0,none⟩=some (.int .i64 (X:Int))/\W.cell? ⟨wr.heap.size,1,none⟩=some (.slice aq nq cq)/\W.cell? ⟨b2,o2+j,none⟩=some (.slice a9 n9 c9)):=λW b=>
    ⟨b.cell (ea.out.cell 0) cI.out,b.cell (ea.out.cell 1) cI.out,(dL.out W (dF.out.next ((NY KQ.out).next b))).1⟩
   have cz:Hid (az Y B B.drew):=NY (NQ B).drew;obtain⟨g0,g1,g2⟩:=I.out B (NU _ _);have aL:=ai.out.kp (D.out.trans KQ.out);have cy:=aL.cell 0;have cx:=aL.cell 1;have cw:=aL.cell 2;have cv:=aL.cell 3;simp only[JT,JS,JU] at cy cx cw cv;have bt:Hid (¬Y w2.heap.size):=λhy=>by rcases (HY.out _).1 hy with L|L|L <;> omega
   have dN:Hid (∀ W,az Y B W->(W.cell? ⟨w2.heap.size,0,none⟩=some (.slice a N c)/\W.cell? ⟨w2.heap.size,1,none⟩=some (.int .i64 (i:Int))/\W.cell? ⟨w2.heap.size,2,none⟩=some (.slice an nn cn)/\W.cell? ⟨w2.heap.size,3,none⟩=some (.slice (some ⟨b1,o1,none⟩) M af)/\W.cell? ⟨wr.heap.size,0,none⟩=some (.int .i64 (X:Int))/\W.cell? ⟨wr.heap.size,1,none⟩=some (.slice aq nq cq)/\W.cell? ⟨b2,o2+j,none⟩=some (.slice a9 n9 c9))):=λW b=>⟨b.cell cy bt.out,b.cell cx bt.out,b.cell cw bt.out,b.cell cv bt.out,I.out W b⟩
   have bM:=JE (dN.out _ cz.out);have cD:Hid (Kp w3 B.drew):=(D.out.trans KQ.out).drew;have cA:=JE ((J.out.once.kp KQ.out).kp (NQ B).drew);have bO:Hid (∀ W,az Y B W->RZ (λg=>g=u.heap.size+1) W (.slice a9 n9 c9) (aU secret j)):=λW b=>⟨(dL.out W (dF.out.next ((NY KQ.out).next b))).2,λx n c e h0 hk=>by have:=eG.out x n c e h0;omega⟩
   have fe:Hid (Kp w3 B):=D.out.trans KQ.out;clear hX bk c0 dB rq bf cT h8 dl bu bx bE aV bC bD aQ bz bJ aL cS hz aw bB au cM;go_wp2_with fail;try rw[bi]
   clear bi ey ex;go_region_held3 (λW=>W.cell? ⟨w2.heap.size,0,none⟩=some (.slice a N c)/\W.cell? ⟨w2.heap.size,1,none⟩=some (.int .i64 (i:Int))/\W.cell? ⟨w2.heap.size,2,none⟩=some (.slice an nn cn)/\W.cell? ⟨w2.heap.size,3,none⟩=some (.slice (some ⟨b1,o1,none⟩) M af)/\W.cell? ⟨wr.heap.size,0,none⟩=some (.int .i64 (X:Int))/\W.cell? ⟨wr.heap.size,1,none⟩=some (.slice aq nq cq)/\W.cell? ⟨b2,o2+j,none⟩=some (.slice a9 n9 c9))
    (first|with_reducible exact bM.out|with_reducible exact S2.out)
    (first
     | (go_at_call 58;refine(aR.out _ (X:Int) cD.out (bO.out _ cz.out) cA.out).mono ?_;rintro _ wA ⟨⟨bv,rfl,di⟩,ek,cV⟩;obtain⟨bn,bc,bm,rfl⟩:=Oc di.gl;have cN:=JE di;have cK:=JE ek;have aW:=JE cV;have bA:Hid (az Y B wA):=cz.out.next (cV.mono λg o=>by rw[o];exact(HY.out _).2 (.inr (.inl rfl)));have S2:=JE (dN.out _ bA.out)))
   rw[<-bU.out] at cK;have eT:Hid (∀ g,g=u.heap.size+1->cG B.drew g):=λg e=>by
    subst e;exact cG.box cA.out.cnt λj z d=>by
     match j with
     | 0=>cases d;exact λn e=>by cases e
     | j+1=>simp at d
   have hz:=HZ.out;have b7:Hid (bj prog 3 (λg=>some g=(Value.slice ar V cr).ownBlock) wA P.heap.size (1+j) (HL j)):=((J.out.km.kp KQ.out).kp (NQ B).drew).step aW.out (λg e=>.inr (eT.out g e)) (λe=>by omega);have bb:Hid (Bx wA p.heap.size 27 #[.slice ap n4 c4,.slice ar V cr]):=(aW.out.block p.heap.size (JK.1 ((J.out.box.kp KQ.out).kp (NQ B).drew)).1 (λe=>by omega)).trans ((J.out.box.kp KQ.out).kp (NQ B).drew);have bT:Hid (GZ dc 74 (λg=>g<A.heap.size) wA A.heap.size (.slice ar V cr) (R.take j)):=((J.out.row.kp KQ.out).kp (NQ B).drew).step (Y:=λg=>g=u.heap.size+1) aW.out (λg e=>.inl (by show g<A.heap.size;omega)) (λg o e=>by have:=(O.out g o).1;omega);have d6:Hid (Kp w3 wA):=Kp.stepOld cD.out aW.out (λg e=>by omega);have H:Hid (wr.heap.size<=B.drew.heap.size/\B.drew.heap.size<=wA.heap.size/\A.heap.size<=wr.heap.size):=⟨KQ.out.size,aW.out.size,J.out.step.size⟩;have dE:Hid (az Y B wA.drew):=bA.out.next (NY (NQ wA).drew);have S3:=JE (I.out _ dE.out);have dQ:=JE (eO.out wA.drew d6.out.drew);have eH:=JE (bO.out wA.drew dE.out).1;have er:¬Y wr.heap.size:=cI.out;obtain⟨g0,g1,g2⟩:=I.out wA bA.out;clear bM S2 cA cD er hz aR cy cx cw cv;go_wp2_with fail;go_region_held3 (λW=>W.cell? ⟨wr.heap.size,0,none⟩=some (.int .i64 (X:Int))/\W.cell? ⟨wr.heap.size,1,none⟩=some (.slice aq nq cq)/\W.cell? ⟨b2,o2+j,none⟩=some (.slice a9 n9 c9))
    (first|with_reducible exact S3.out|with_reducible exact S4.out|with_reducible exact S5.out)
    (first
     | (go_at_call 59;refine(dM.out _ (X:Int) _ _ _ j dQ.out eH.out).mono ?_;rintro _ wB ⟨⟨v5,rfl,r5,ef⟩,k5⟩;obtain⟨a5,n5,c5,rfl⟩:=aA r5;have KB:Hid (Kp wA wB):=(NQ wA).drew.trans k5;have SB:Hid (az Y B wB):=bA.out.next (NY KB.out);have S4:=JE (I.out _ SB.out);have d3:=JE (b7.out.kp KB.out);have eB:Hid (RZ (λg=>some g=(Value.slice ar V cr).ownBlock) wB (.slice a5 n5 c5) (bo secret j)):=⟨r5,dZ ef λg o=>by have:=(O.out g o.symm).2;have:=H.out;have h2:wA.drew.heap.size=wA.heap.size:=rfl;omega⟩;obtain⟨wC,aH,ep,dk⟩:=Io (t:=103) (e:=90) fT underlying103 d3.out et ⟨(X:Int),bo secret j⟩ (.slice a5 n5 c5) bL eB.out;dsimp only at aH;have eY:=JE ep;have a6:=JE dk;have SC:Hid (az Y B wC):=SB.out.then dk (λg o=>by cases o;exact .inr ((HY.out _).2 (.inl rfl)));have S5:=JE (I.out _ SC.out)))
   have aP:Hid (az (λg=>g=P.heap.size) wB wC):=⟨a6.out.os,a6.out.tape,a6.out.output,a6.out.size,λk hk hn=>a6.out.block k hk (λe=>hn (by cases e;rfl))⟩;have eS:Hid (∀ g,g=P.heap.size->cG wB g):=λg e=>by subst e;exact cG.map d3.out.km.nosolid
   have hz:=HZ.out;have b6:Hid (bj prog 3 (λg=>some g=(Value.slice ar V cr).ownBlock) wC P.heap.size (1+(j+1)) (HL (j+1))):=eY.out.congr λy=>aS.out y
   have dh:HL (j+1) ⟨(X:Int),bo secret j⟩:=(aS.out _).2 (.inl rfl);have dW:Hid (eo wC (u.heap.size+1) u.heap.size secret (G (j+1))):=cK.out.kp KB.out |>.over aP.out eS.out (λe=>by omega) (λe=>by omega)
   have ba:Hid (Bx wC p.heap.size 27 #[.slice ap n4 c4,.slice ar V cr]):=(aP.out.block p.heap.size (JK.1 (bb.out.kp KB.out)).1 (λe=>by omega)).trans (bb.out.kp KB.out);have dO:Hid (GZ dc 74 (λg=>g<A.heap.size) wC A.heap.size (.slice ar V cr) (R.take j)):=(bT.out.kp KB.out).step (Y:=λg=>g=P.heap.size) aP.out (λg e=>.inl (by show g<A.heap.size;omega)) (λg o e=>by have:=(O.out g o).1;omega);have ca:Hid (GZ dS 92 (λg=>g<B.drew.heap.size) wC B.drew.heap.size (.slice bn bc bm) (de t secret info (aU secret j) (G j) CV)):=(cN.out.kp KB.out).step (Y:=λg=>g=P.heap.size) aP.out (λg e=>.inl (by show g<B.drew.heap.size;have:=H.out;omega)) (λg o e=>by have:=(cN.out.lt g o).1;have:=H.out;omega);have bN:Hid (wA.heap.size<=wB.heap.size/\wB.heap.size<=wC.heap.size):=⟨KB.out.size,aP.out.size⟩;clear S3 S4 S5 b7 bb bT cN cK aH hz g0 g1 g2;have dV:=dW.out.cnt;have eX:=JE (b6.out.km.kp (NQ wC).drew);have zs:=kR wC.drew;have e8:=qE (X:Int);obtain⟨qd,aG,ch⟩:=tu (e:=90) 103 fT underlying103 zs eX.out ⟨(X:Int),bo secret j⟩ dh ck;obtain⟨fb,e5,e9,rfl⟩:=aA ch;dsimp only [sdV] at aG
   obtain⟨g0,_,_⟩:=I.out wC SC.out;have cP:=ba.out.cell 1;simp only[JT,JS,JU] at cP;have eQ:=JE ch;clear dV zs ch;go_wp2_with fail;go_region_law (first
    | (refine Ip (S:=dc) (Z:=λg=>g<A.heap.size) stK rfl (.tmp 95) (.tmp 104) rfl A.heap.size _ (R.take j) rfl bR.out _ ⟨dX (bo secret j),de t secret info (aU secret j) (G j) CV⟩ rfl bZ.out db cc.out ?_;intro vF wE oE gE aE;obtain⟨aF,nF,cF,rfl⟩:=Oc oE.gl;have ah:Hid (Bx wE p.heap.size 27 #[.slice ap n4 c4,.slice ar V cr]):=a7.out.grown gE (λe=>by have:=(O.out _ e.symm).1;have:=HZ.out;omega);have cE:=ah.out.cell 1;have fE:=ah.out.frozen 1;simp only[JT,JS,JU] at cE;have OE:=JE oE;have GE:=JE gE;have AE:=JE aE)
    | (go_simp;go_at_call 55;refine(dR.out _ _ (bo secret j) eQ.out).mono ?_;rintro _ wD ⟨⟨v8,rfl,r8,ee⟩,k8⟩;obtain⟨a8,n8,c8,rfl⟩:=aA r8;have KD:Hid (Kp wC wD):=(NQ wC).drew.trans k8;have dz:=(ba.out.kp KD.out).cell 1;simp only[JT,JS,JU] at dz;have ax:Hid (Kp wC (wD.alloc (.cells #[.slice a8 n8 c8,.slice bn bc bm] 74))):=KD.out.alloc _;have bR:=JE (dO.out.kp ax.out);have a7:=JE (ba.out.kp ax.out);have dA:=a7.out.cell 1;simp only[JT,JS,JU] at dA;have cc:Hid (A.heap.size<=(wD.alloc (.cells #[.slice a8 n8 c8,.slice bn bc bm] 74)).heap.size):=(by have h5:=ax.out.size;have:=H.out;have:=bN.out;unfold Hid;omega);have bZ:Hid (SE dc (λg=>some g=(Value.slice ar V cr).ownBlock\/g<A.heap.size) (wD.alloc (.cells #[.slice a8 n8 c8,.slice bn bc bm] 74)) (.slice (some ⟨wD.heap.size,0,none⟩) 1 1) [⟨dX (bo secret j),de t secret info (aU secret j) (G j) CV⟩]):=SE.litZ (S:=dc) 74 ⟨_,_,rfl,⟨r8,dZ ee λg o=>by have h6:wC.drew.heap.size=wC.heap.size:=rfl;have:=H.out;have:=bN.out;rcases o with h5|h5;(· have:=(O.out g h5.symm).2;omega);(· omega)⟩,⟨((ca.out.kp KD.out).se).mono λg o=>by show g<B.drew.heap.size;have:=H.out;rcases o with h5|h5;(· have:=(O.out g h5.symm).2;omega);(· omega),dZ (C:=B.drew.heap.size) (λg o=>(ca.out.lt g o).1) λg o=>by have:=H.out;rcases o with h5|h5;(· have:=(O.out g h5.symm).2;omega);(· omega)⟩⟩ rfl))
   all_goals (
    obtain⟨wz,aj⟩:∃ x,wE.setCell ⟨p.heap.size,1,none⟩ (.slice aF nF cF)=x:=⟨_,rfl⟩;have hz:=HZ.out;have cb:Hid (Bx wz p.heap.size 27 #[.slice ap n4 c4,.slice aF nF cF]):=by unfold Hid;rw[<-aj];exact ah.out.set 1 (.slice aF nF cF)
    have aO:Hid (az (λg=>g=p.heap.size) wE wz):=by unfold Hid;rw[<-aj];exact(NU _ _).setCell _ _ (.inr rfl)
    have h3:az Y A wE:=((((J.out.step.next (NY KQ.out)).next SC.out).next (NY ax.out)).then GE.out (λk hk=>.inl (O.out k hk).1));have h4:az Y A wz:=h3.next (aO.out.mono λg e=>by rw[e];exact(HY.out _).2 (.inr (.inr rfl)));have c7:∀ g,g=p.heap.size->cG wE g:=λg e=>by
     subst e;exact cG.box ah.out λj z d=>by
      match j with
      | 0=>cases d;exact λn e=>by cases e
      | 1=>cases d;exact λn e=>by cases e
      | j+2=>simp at d
    have df:bj prog 3 (λg=>some g=(Value.slice aF nF cF).ownBlock) wE P.heap.size (1+(j+1)) (HL (j+1)):=(b6.out.kp ax.out).moved GE.out AE.out (λe=>by have:=(O.out _ e.symm).1;omega);have dd:=df.step aO.out (λg e=>.inr (c7 g e)) (λe=>by omega);have cu:Bx wE (u.heap.size+1) 3 #[.int .i64 ((G (j+1):Nat):Int)]:=(dW.out.cnt.kp ax.out).grown GE.out (λe=>by have:=(O.out _ e.symm).1;omega);have dm:Bx wz (u.heap.size+1) 3 #[.int .i64 ((G (j+1):Nat):Int)]:=(aO.out.block _ (JK.1 cu).1 (λe=>by omega)).trans cu;have cZ:eo wz (u.heap.size+1) u.heap.size secret (G (j+1)):=by
     obtain⟨_,⟨vv,dC,cQ⟩,_⟩:=dT.out;refine⟨dm,⟨vv,(h4.block _ (JK.1 dC).1 (λhy=>by rcases (HY.out _).1 hy with L|L|L <;> omega)).trans dC,cQ.1.step8 h4 (bW.out A _ _ _ _ _ _ bX.out ⟨_,_,_,rfl⟩),cQ.2⟩,by omega⟩
    have bh:=OE.out;rw[<-aZ.out] at bh;have cW:=bh.step (Y:=λg=>g=p.heap.size) aO.out (λg e=>.inl (by show g<A.heap.size;omega)) (λg o e=>by have:=(bh.lt g o).1;omega);have eV:Hid (oF A Y P.heap.size (u.heap.size+1) u.heap.size p.heap.size (.slice ap n4 c4) (.slice aF nF cF) (HL (j+1)) secret (G (j+1)) (R.take (j+1)) (j+1) wz):=⟨dd,cZ,cb.out,cW,h4⟩;try rw[aj]
    clear aj h3 h4 c7 df dd cu dm cZ bh cW cb aO hz cE fE cP dz dA ah bZ bR a7 cc g0 aG;go_wp2_with fail;go_roundw
    case rel=>exact⟨j+1,_,by omega,by first|rfl|(rw[i1];rfl),eV.out⟩
    case measure=>simp[intOf];omega)
  ·obtain rfl:j=M:=by omega
   have h1:¬(j:Int)<(j:Int):=by omega
   have hz:=HZ.out;have cU:R.take j=R:=by rw[<-d1.out];exact Kz
   have f:=J.out;rw[cU] at f;have d2:=JE f;have bK:=bw.out.kp ag.out;have eD:Hid (Kp p wr):=Kp.stepOld ((((bq.out.trans am.out).trans bp.out).trans T.out).trans cH.out) f.step (λg o=>by rcases (HY.out g).1 o with L|L|L <;> omega);have cB:Hid (Kp w wr):=(K2.out.trans ag.out).trans D.out;have aY:Hid (∀ W,Kp wr W->PIn W (.slice ap n4 c4) (.slice ar V cr) MP):=λW b=>by
    rw[d0.out];exact⟨RP.out.kp (eD.out.trans b),Od f.row.gl b⟩
   have d5:=JE (λW (b:Kp wr W)=>cM.out W (cB.out.trans b) _ _ _ _ (bK.kp (D.out.trans b)) (aY.out W b));have dP:=JE (λW (b:Kp wr W)=>bB.out W P.heap.size j (JO _) (f.km.km.kp b));have bY:Hid (Rd wr (.slice al nl cl) (gR secret j)):=d4.out.step8 ((NY cH.out).next f.step) (λg o=>by
    rcases (HY.out g).1 o with L|L|L
    ·subst L;exact cG.map b9.out.nosolid
    ·exact cG.map λE=>by have:=E.lt;omega
    ·subst L
     exact cG.box cd.out λj z d=>by
      match j with
      | 0=>cases d;exact λn e=>by cases e
      | 1=>cases d;exact λn e=>by cases e
      | j+2=>simp at d)
   have U:Hid (∀ W,Kp wr W->Bx W w.heap.size 47 #[.slice none 0 0,.slice none 0 0,.slice none 0 0,.slice none 0 0,.slice none 0 0]):=λW b=>ed.out.kp ((dJ.out.trans ag.out).trans (D.out.trans b))
   have aX:Hid (∀ W,Kp wr W->(W.cell? ⟨w2.heap.size,0,none⟩=some (.slice a N c)/\W.cell? ⟨w2.heap.size,1,none⟩=some (.int .i64 (i:Int))/\W.cell? ⟨w2.heap.size,2,none⟩=some (.slice an nn cn)/\W.cell? ⟨w2.heap.size,3,none⟩=some (.slice aN j af)/\W.cell? ⟨p.heap.size,0,none⟩=some (.slice ap n4 c4)/\W.cell? ⟨p.heap.size,1,none⟩=some (.slice ar V cr))):=λW b=>
    ⟨(ai.out.kp (D.out.trans b)).cell 0,(ai.out.kp (D.out.trans b)).cell 1,(ai.out.kp (D.out.trans b)).cell 2,(ai.out.kp (D.out.trans b)).cell 3,(f.box.kp b).cell 0,(f.box.kp b).cell 1⟩
   have eL:Hid (∀ W Wz,Kp wr W->az (λg=>g=w.heap.size) W Wz->(Wz.cell? ⟨w2.heap.size,0,none⟩=some (.slice a N c)/\Wz.cell? ⟨w2.heap.size,1,none⟩=some (.int .i64 (i:Int))/\Wz.cell? ⟨w2.heap.size,2,none⟩=some (.slice an nn cn)/\Wz.cell? ⟨w2.heap.size,3,none⟩=some (.slice aN j af)/\Wz.cell? ⟨p.heap.size,0,none⟩=some (.slice ap n4 c4)/\Wz.cell? ⟨p.heap.size,1,none⟩=some (.slice ar V cr))):=λW Wz b E=>by
    obtain⟨b0,eA,ez,b3,b4,b5⟩:=aX.out W b;exact⟨E.cell b0 (λe=>by have h5:w2.heap.size=w.heap.size:=e;omega),E.cell eA (λe=>by have h5:w2.heap.size=w.heap.size:=e;omega),E.cell ez (λe=>by have h5:w2.heap.size=w.heap.size:=e;omega),E.cell b3 (λe=>by have h5:w2.heap.size=w.heap.size:=e;omega),E.cell b4 (λe=>by have h5:p.heap.size=w.heap.size:=e;omega),E.cell b5 (λe=>by have h5:p.heap.size=w.heap.size:=e;omega)⟩
   have KD:Hid (Kp wr wr.drew):=(NQ wr).drew;have bM:=JE (aX.out _ KD.out);have d7:Hid (∀ W Wz (rt ro:Value),Kp wr W->NL W rt LP->GZ bQ 90 (λg=>g<wr.heap.size) W wr.heap.size ro OE->az (λg=>g=w.heap.size) W Wz->MIn Wz rt ro (.slice ap n4 c4) (.slice ar V cr) (.slice al nl cl) ⟨LP,OE,MP,gR secret j⟩):=λW Wz rt ro b hn o aB=>by
    have en:=qy (U.out W b);have c6:∀ g,g=w.heap.size->cG W g:=λg e=>by
     subst e;exact cG.box (U.out W b) λj z d=>by
      match j with
      | 0=>cases d;exact λn e=>by cases e
      | 1=>cases d;exact λn e=>by cases e
      | 2=>cases d;exact λn e=>by cases e
      | 3=>cases d;exact λn e=>by cases e
      | 4=>cases d;exact λn e=>by cases e
      | j+5=>simp at d
    have e7:w.heap.size<wr.heap.size:=by have:=cB.out.size;have:=D.out.size;omega
    refine⟨NL.sly hn en aB,(o.step (Y:=λg=>g=w.heap.size) aB (λg e=>.inl (by show g<wr.heap.size;omega)) (λg cp e=>by have:=(o.lt g cp).1;omega)).gl,?_,(bY.out.kp b).step8 aB c6⟩;have hp:=aY.out W b;rw[d0.out] at hp ⊢;exact⟨hp.pub.step8 aB c6,((f.row.kp b).step (Y:=λg=>g=w.heap.size) aB (λg e=>.inl (by show g<A.heap.size;omega)) (λg cp e=>by have:=(f.row.lt g cp).1;omega)).gl⟩
   obtain⟨t0,bV,t2,t3,t4,t5⟩:=aX.out wr (NQ _);clear cU f bK aY J bw cM bB bu bx bE aV bC bD aQ bz bJ bY bG d2 d4 hz;go_wp2_with fail;go_region_held3 (λW=>W.cell? ⟨w2.heap.size,0,none⟩=some (.slice a N c)/\W.cell? ⟨w2.heap.size,1,none⟩=some (.int .i64 (i:Int))/\W.cell? ⟨w2.heap.size,2,none⟩=some (.slice an nn cn)/\W.cell? ⟨w2.heap.size,3,none⟩=some (.slice aN j af)/\W.cell? ⟨p.heap.size,0,none⟩=some (.slice ap n4 c4)/\W.cell? ⟨p.heap.size,1,none⟩=some (.slice ar V cr))
    (first|with_reducible exact bM.out|with_reducible exact S2.out|with_reducible exact S3.out|with_reducible exact S4.out)
    (first
     | (go_at_call 61;refine(dP.out _ KT.out).mono ?_;rintro _ wv ⟨⟨vo,lo,rfl,eh,el,dj⟩,kv⟩;obtain rfl:=au.out lo eh el;obtain⟨ao,no,co,rfl⟩:=Oc dj.gl;have KV:Hid (Kp wr wv):=KT.out.trans kv;have S3:=JE (aX.out _ KV.out);have cL:=JE (tc (U.out wv KV.out) (.slice dD cR dy) (.slice ao no co) (.slice ap n4 c4) (.slice ar V cr) (.slice al nl cl));have S4:=JE (eL.out wv _ KV.out cL.out.2.1);have eJ:=JE (eK.out.kp kv);have eR:Hid (GZ bQ 90 (λg=>g<wr.heap.size) wv wr.heap.size (.slice ao no co) lo):=(dj.solidly λg o=>.inr (.inl (show g<wT.heap.size from JV o KT.out.size))).mono KT.out.size;have ad:=(U.out wv KV.out).there;have j0:=(U.out wv KV.out).cell 0;have j1:=(U.out wv KV.out).cell 1;have j2:=(U.out wv KV.out).cell 2;have j3:=(U.out wv KV.out).cell 3;have j4:=(U.out wv KV.out).cell 4;have f0:=(ad 0 (by decide)).2;have f1:=(ad 1 (by decide)).2;have f2:=(ad 2 (by decide)).2;have f3:=(ad 3 (by decide)).2;have f4:=(ad 4 (by decide)).2;clear ad;rw[Lf] at f0 f1 f2 f3 f4;simp only[JT,JS,JU] at j0 j1 j2 j3 j4)
     | (go_at_call 60;refine(d5.out _ KD.out).mono ?_;rintro _ wT ⟨⟨rt,rfl,ht⟩,kT⟩;obtain⟨dD,cR,dy,rfl⟩:=ht.sl;have eK:=JE ht;have KT:Hid (Kp wr wT):=KD.out.trans kT;have S2:=JE (aX.out _ KT.out)))
   all_goals (
    obtain⟨wz,aj⟩:∃ x,((((wv.setCell ⟨w.heap.size,0,none⟩ (.slice dD cR dy)).setCell ⟨w.heap.size,1,none⟩ (.slice ao no co)).setCell ⟨w.heap.size,2,none⟩ (.slice ap n4 c4)).setCell ⟨w.heap.size,3,none⟩ (.slice ar V cr)).setCell ⟨w.heap.size,4,none⟩ (.slice al nl cl)=x:=⟨_,rfl⟩;have aI:=cL.out;rw[aj] at aI ⊢;have I:=JE aI;have d9:=JE (d7.out wv wz _ _ KV.out eJ.out eR.out aI.2.1);have dH:Hid (Kp w wz):=aI.2.2 w (cB.out.trans KV.out) (JO _);clear aI aj bM S2 S3 S4 cL j0 j1 j2 j3 j4 f0 f1 f2 f3 f4 t0 bV t2 t3 t4 t5;go_wp2_with fail;refine bodyPost_ret (eZ rfl _ _ w.heap.size _ _ (0,0) _ _ rfl I.out.1 underlying47 rfl cY rfl) rfl ?_;exact⟨⟨_,rfl,_,_,_,_,_,rfl,d9.out⟩,dH.out⟩)
theorem tv {l:List Nat}{k j:Nat}:(l.drop k).getD j 0=l.getD (k+j) 0:=by
 rw[JF,JF,MA]
theorem Iz (aa n s x y vs:Value)(t:List Nod)(K i k m F:Nat)(S:Sd->Prop)(b:List UInt8)(p:Pa)(w:World)(O:WIn w aa n s t K i)(hm:KM prog 3 w m F S)(hp:PIn w x y p)(Z:Rd w vs b)(a7:b.length=32)
  (hk:k<(ixS t i K).length) (hM:(ixS t i K).length<=10) (a3:p.step.length=(ixS t i K).length) (bV:F<=100000) (hd:∀ a,S a->∀ z∈(aC t i K).drop k,a.node≠(z:Int)) (B:∀ z∈aC t i K,z<=100000):
  Calls prog 71 #[.agg #[aa,.int .i64 (i:Int),n,s],.int .i64 (k:Int),.map (some m),vs,.agg #[x,y]] w λe w'=>
   (∃ r E,e=.returned (.tuple #[r,.int .i64 E])/\((gn p.step b k (ixS t i K).length/\E=0/\Rd w' r (aU b ((ixS t i K).length - k))/\KM prog 3 w' m (F+((ixS t i K).length - k)) (fJ S b ((aC t i K).drop k) ((ixS t i K).length - k)))\/(¬gn p.step b k (ixS t i K).length/\E=5/\Rd w' r [])))/\az (λg=>g=m) w w':=by
 have bg:=(gy t i K).1;have a2:=iB t i K;have be:=JE (λW (u:Kp w W)=>zl vs b ((ixS t i K).length - k) W (Z.kp u) a7 (by omega));have bh:((aC t i K).drop k).Nodup:=(lT t i K).sublist (List.drop_sublist _ _);have bf:((aC t i K).drop k).length=(ixS t i K).length - k:=by rw[LG,bg]
 have aP:=JE (λj (h:j<(ixS t i K).length - k) (z:Sd)=>yV (own:=S) (s:=b) (n:=j) bh hd (by rw[bf];exact h) z);have bP:=JE (λz=>yU (own:=S) (s:=b) (xs:=(aC t i K).drop k) z);have bb:=JE (λa (h:a<(ixS t i K).length)=>kP (t:=t) (i:=i) (m:=K) h);have aN:Hid (∀ j,j<(ixS t i K).length - k->((aC t i K).drop k).getD j 0=(aC t i K).getD (k+j) 0/\(aC t i K).getD (k+j) 0<=100000):=λj hj=>⟨tv,B _ (by rw[JF,JG (by omega)];exact Ko _)⟩
 have aF:Hid (gn p.step b k (ixS t i K).length↔∀ j,j<(ixS t i K).length - k->aI (bo b j)=(am p.step (k+j)).pub):=⟨λh j hj=>h j (by omega),λh j hj=>h j (by omega)⟩;have bd:Hid (∀ j,dX (bo b j)=aI (bo b j)):=λj=>(eC (jR _ eI)).2
 have bc:Hid (∀ j,bH (aU b j) eI=bo b j):=λj=>rfl
 have bA:Hid (gR b ((ixS t i K).length - k)=aU b ((ixS t i K).length - k)):=by unfold Hid gR;rw[if_neg (by omega)]
 have aW:=JE (λj (h:j<(ixS t i K).length - k)=>sA b h);have aV:=JE (jU b ((ixS t i K).length - k));have ao:=JE (λW (x:Int) (q v:Value) (c:List Int) j (hq:RI W q c) (Z:Rd W v (aU b j))=>zf x q v c (aU b j) W hq Z (by rw[jS a7 j];omega));have ax:=JE (λW (aa:Value) j (O:Rd W aa (bo b j))=>yD aa (bo b j) W O);simp only[bd.out] at ax;simp only[bc.out] at ao;have aX:=JE (λW (aa v:Value) (l m:List UInt8) (O:Rd W aa l) (Z:Rd W v m)=>mf aa v l m W O Z);have aO:=JE O.steps;have aQ:=JE hp.step;have HM:=JE hm;obtain⟨au,nu,cu,rfl⟩:=O.tree.sl;obtain⟨an,nn,cn,rfl⟩:=O.nodes.sl;obtain⟨bY,aM,rfl,q5,q6⟩:=Ob O.steps;obtain⟨ap,np,cp,rfl⟩:=aA hp.pub;obtain⟨a6,c6,rfl,q9,bF⟩:=Ob hp.step;obtain⟨gs,os,rfl,_,_⟩:=SE.at O.steps (by omega);obtain⟨T,R,rfl,_,_⟩:=SE.at hp.step (by omega);obtain⟨av,nv,cv,rfl⟩:=aA Z;rw[a2] at q5 aO ⊢;rw[a3] at q9 aQ ⊢;generalize gn p.step b k (ixS t i K).length=HP at *;generalize fJ S b ((aC t i K).drop k)=HL at *;generalize (aC t i K).drop k=XS at *;generalize aC t i K=ST at *;have bB:=JE a3;have bz:=JE a2;generalize (ixS t i K).length=M at *;obtain⟨J,hJ⟩:∃ J,M - k=J:=⟨_,rfl⟩;have bn:M=k+J:=by omega
 have bL:0<J/\J<=10:=by omega
 rw[hJ] at be aP aN aF bA aW aV ⊢;have i2:IntKind.i64.wrap ((M:Int) - (k:Int))=(J:Int):=by rw[JI _ (by omega)];omega
 unfold maxLen at q6 bF;have bW:¬(M:Int)<(k:Int):=by omega
 have bX:(M:Int)<=(aM:Int):=by omega
 have ay:=JE bn;clear O hm hp Z a7 a3 hd B bg a2 bh bf bn;go_enter func71,ntmps71;go_wp2_with fail;obtain⟨w1,Y⟩:∃ w1,(w.alloc (.cells #[.slice au nu cu,.int .i64 (i:Int),.slice an nn cn,.slice (some ⟨gs,os,none⟩) M aM] 95)).alloc (.cells #[.slice ap np cp,.slice (some ⟨T,R,none⟩) M c6] 27)=w1:=⟨_,rfl⟩;have HB:Hid (Bx w1 w.heap.size 95 #[.slice au nu cu,.int .i64 (i:Int),.slice an nn cn,.slice (some ⟨gs,os,none⟩) M aM]):=by unfold Hid;rw[<-Y];exact(Oa w _ _).kp ((NQ _).alloc _)
 have bT:Hid (Bx w1 (w.heap.size+1) 27 #[.slice ap np cp,.slice (some ⟨T,R,none⟩) M c6]):=by
  unfold Hid;have:=Oa (w.alloc (.cells #[.slice au nu cu,.int .i64 (i:Int),.slice an nn cn,.slice (some ⟨gs,os,none⟩) M aM] 95)) 27 #[.slice ap np cp,.slice (some ⟨T,R,none⟩) M c6];rw[JY] at this;rw[<-Y];exact this
 have K1:Hid (Kp w w1):=by unfold Hid;rw[<-Y];exact((NQ _).alloc _).alloc _
 rw[Y];clear Y;refine(be.out w1 K1.out).mono ?_;rintro _ w2 ⟨⟨o2,r2,rfl,ah,aH,_⟩,k2⟩;obtain⟨ae,ce,rfl,q1,q2⟩:=Ob ah;rw[aV.out] at ah q1 ⊢;obtain⟨ge,oe,rfl,_,_⟩:=SE.at ah bL.1;obtain⟨ar,nr,cr,rfl⟩:=aA aH;rw[bA.out] at aH;have bS:=JE ah;have bQ:=JE aH;have K2:=JE k2;have U:=JE (K1.out.trans k2);have bx:=JE (HM.out.kp U.out);have d3:=(HB.out.kp k2).cell 3;simp only[JT,JS,JU] at d3;clear ah aH k2 be;go_wp2_with fail;have bR:Hid (¬cA w2 m):=bx.out.nosolid;go_loopw[31] (λz wr=>∃ j:Nat,j<=J/\z=.int .i64 (j:Int)/\KM prog 3 wr m (F+j) (HL j)/\(∀ a,a<j->aI (bo b a)=(am p.step (k+a)).pub)/\az (λg=>g=m) w2 wr) (λz _=>(J - (intOf z).toNat))
 case atStart=>exact⟨0,JW _,rfl,bx.out.congr λz=>bP.out z,λa h=>by omega,NU _ _⟩
 case round=>
  obtain⟨j,hj,rfl,bi,aY,ab⟩:=hrel;have aS:=JE bi;have aR:=JE aY;have a0:=JE ab;have aG:Hid (Cs w2 wr):=ab.cs λg e=>by subst e;exact bR.out
  clear bi aY ab d3;by_cases B:j<J
  ·obtain⟨b1,o1,y1,q,e1,_,c0,c1,rq⟩:=aJ.sp (i:=k+j) (aJ.cs (Od aO.out U.out) aG.out) (by rw[bz.out];have:=ay.out;omega)
   rw[bz.out] at e1;simp only[JR,Ky,Lv,and_true] at e1;obtain⟨⟨rfl,rfl⟩,_,rfl⟩:=e1;rw[bb.out (k+j) (by have:=ay.out;omega)] at c0 rq;dsimp only at c0 rq
   obtain⟨x1,x2⟩:=aN.out j B;rw[<-x1] at c0 x2;rw[show os+(k+j)*2=os+k*2+j*2 by omega] at c0 c1;obtain⟨b2,o2,y2,ve,e2,_,c2,rv⟩:=aJ.bs (i:=j) (aJ.cs bS.out aG.out) (by rw[aV.out];exact B);rw[aV.out] at e2;simp only[JR,Ky,Lv,and_true] at e2;obtain⟨⟨rfl,rfl⟩,_,rfl⟩:=e2;have bj:kE (em b J) j=aU b j:=aW.out j B;rw[bj] at rv;obtain⟨b3,o3,y3,pv,qv,e3,_,c3,_,rp,_⟩:=dl.node (i:=k+j) (aJ.cs (Od aQ.out U.out) aG.out) (by rw[bB.out];have:=ay.out;omega);rw[bB.out] at e3;simp only[JR,Ky,Lv,and_true] at e3;obtain⟨⟨rfl,rfl⟩,_,rfl⟩:=e3;have G:=JE (aP.out j B);have a1:Hid (aI (bo b j)=(am p.step (k+j)).pub->∀ a,a<j+1->aI (bo b a)=(am p.step (k+a)).pub):=λh a ha=>by
    rcases Kh (Kr.1 ha) with h3|h3
    ·exact aR.out a h3
    ·rw[h3];exact h
   have bv:Hid (¬aI (bo b j)=(am p.step (k+j)).pub->¬HP):=λh hp=>h (aF.out.1 hp j B)
   obtain⟨X,hX⟩:∃ X,XS.getD j 0=X:=⟨_,rfl⟩;rw[hX] at c0 x2 G;obtain⟨ba,aZ⟩:∃ P,(am p.step (k+j)).pub=P:=⟨_,rfl⟩;rw[aZ] at rp a1 bv;obtain⟨aq,nq,cq,rfl⟩:=rq.sl;obtain⟨a9,n9,c9,rfl⟩:=aA rv;obtain⟨aj,V,ai,rfl⟩:=aA rp;obtain⟨CV,bp⟩:∃ C,(aT t i K).getD (k+j) []=C:=⟨_,rfl⟩;rw[bp] at rq;have i1:IntKind.i64.wrap ((j:Int)+1)=(j:Int)+1:=JI _ (by omega);have i4:IntKind.i64.wrap ((k:Int)+(j:Int))=(k:Int)+(j:Int):=JI _ (by have:=ay.out;omega);have i6:¬(k:Int)+(j:Int)<0:=by omega
   have i7:((k:Int)+(j:Int)).toNat=k+j:=by omega
   have i8:(0:Int)<=(k:Int)+(j:Int):=by omega
   have i3:(j:Int)<(J:Int):=by omega
   have i5:(k:Int)+(j:Int)<(M:Int):=by have:=ay.out;omega
   have D:Go.keyOf prog 3 (.int .i64 (X:Int))=some (.int .i64 (X:Int)):=keyOf_int_mk underlying3 (Mf (by omega));have ad:=D;have bk:F+j<maxLen:=by unfold maxLen;omega
   obtain⟨A,aL⟩:∃ x,wr.alloc (.cells #[.int .i64 (X:Int),.slice aq nq cq] 99)=x:=⟨_,rfl⟩;have KQ:Hid (Kp wr A):=by unfold Hid;rw[<-aL];exact(NQ _).alloc _
   have bl:Bx A wr.heap.size 99 #[.int .i64 (X:Int),.slice aq nq cq]:=by rw[<-aL];exact Oa wr _ _
   have bD:=JE bl;have CQ:Hid (Cs wr A):=KQ.out.cs;have CD:Hid (Cs A A.drew):=(NQ A).drew.cs;have aw:Hid (∀ W,Cs A W->W.cell? ⟨wr.heap.size,0,none⟩=some (.int .i64 (X:Int))/\W.cell? ⟨wr.heap.size,1,none⟩=some (.slice aq nq cq)/\W.cell? ⟨ge,oe+j,none⟩=some (.slice a9 n9 c9)):=λW u=>
    ⟨(bD.out.cs u).cell 0,(bD.out.cs u).cell 1,(CQ.out.trans u).cell c2⟩
   have bM:=JE (aw.out _ CD.out);have bm:=bT.out.kp K2.out;have bC:Hid (∀ W,Cs A W->W.cell? ⟨w.heap.size+1,1,none⟩=some (.slice (some ⟨T,R,none⟩) M c6)/\W.cell? ⟨T,R+(k+j)*2,none⟩=some (.slice aj V ai)):=λW u=>
    ⟨((bm.cs aG.out).cs (CQ.out.trans u)).cell 1,(CQ.out.trans u).cell c3⟩
   have bt:=JE (λW (u:Cs A W)=>rq.cs (CQ.out.trans u));have br:=JE (λW (u:Cs A W)=>rv.cs (CQ.out.trans u));have bu:=JE (λW (u:Cs A W)=>rp.cs (CQ.out.trans u));have bw:=JE (aS.out.kp KQ.out);have bq:Hid (az (λg=>g=m) w2 A):=a0.out.next (NY KQ.out);clear bl bm hX aZ bp bj x1 rq rv rp aP bb aN aF bd bc aW aO aQ aR c2 c3 aS;by_cases aK:aI (bo b j)=ba
   ·have N:=JE (λW (aa v:Value) (O:Rd W aa (aI (bo b j))) (Z:Rd W v ba)=>aX.out W aa v _ _ O Z)
    rw[Ke aK] at N;clear aX;go_wp2_with fail;try rw[aL]
    go_region_held3 (λW=>W.cell? ⟨wr.heap.size,0,none⟩=some (.int .i64 (X:Int))/\W.cell? ⟨wr.heap.size,1,none⟩=some (.slice aq nq cq)/\W.cell? ⟨ge,oe+j,none⟩=some (.slice a9 n9 c9))
     (first|with_reducible exact bM.out|with_reducible exact S5.out|with_reducible exact S6.out)
     (first
      | (go_at_call 59;refine(ao.out _ (X:Int) _ _ _ j (bt.out _ CD.out) (br.out _ CD.out)).mono ?_;rintro _ w5 ⟨⟨v5,rfl,r5,bI⟩,k5⟩;obtain⟨a5,n5,c5,rfl⟩:=aA r5;have C5:Hid (Cs A w5):=CD.out.trans k5.cs;have S5:=JE (aw.out _ C5.out);have L:=JE (bw.out.kp ((NQ A).drew.trans k5));have al:Hid (gW w5 (.agg #[.int .i64 (X:Int),.slice a5 n5 c5]) ⟨(X:Int),bo b j⟩):=⟨_,rfl,r5⟩;have ak:Hid (az (λg=>g=m) w2 w5):=bq.out.next (NY ((NQ A).drew.trans k5));obtain⟨d,o,a4,ag⟩:=zq (e:=90) 103 fT underlying103 L.out bk ⟨(X:Int),bo b j⟩ _ D al.out;dsimp only at o;have aE:=JE a4;have C6:Hid (Cs A d):=C5.out.trans (Cs.grown ag L.out.nosolid);have S6:=JE (aw.out _ C6.out);have G6:Hid (az (λg=>g=m) w2 d):=ak.out.then ag (λg hg=>by cases hg;exact .inr rfl)))
    have aD:Hid (KM prog 3 d m (F+(j+1)) (HL (j+1))):=aE.out.congr λy=>G.out y
    have af:HL (j+1) ⟨(X:Int),bo b j⟩:=(G.out _).2 (.inl rfl);have zs:=kR d.drew;have aB:=JE (aD.out.kp (NQ d).drew);have bK:=qE (X:Int);obtain⟨qd,f,H⟩:=tu (e:=90) 103 fT underlying103 zs aB.out ⟨(X:Int),bo b j⟩ af ad;obtain⟨bO,bJ,bN,rfl⟩:=aA H;dsimp only [sdV] at f
    obtain⟨g0,_,_⟩:=S6.out;have I:Hid (∀ W,Cs d W->W.cell? ⟨wr.heap.size,0,none⟩=some (.int .i64 (X:Int))/\W.cell? ⟨w.heap.size+1,1,none⟩=some (.slice (some ⟨T,R,none⟩) M c6)/\W.cell? ⟨T,R+(k+j)*2,none⟩=some (.slice aj V ai)):=λW u=>⟨u.cell S6.out.1,bC.out _ (C6.out.trans u)⟩
    have C7:Hid (Cs d d.drew):=(NQ d).drew.cs;have S7:=JE (I.out _ C7.out);clear bM S5 S6 L al ak ao D g0 aE o;go_wp2_with fail;go_region_held3 (λW=>W.cell? ⟨wr.heap.size,0,none⟩=some (.int .i64 (X:Int))/\W.cell? ⟨w.heap.size+1,1,none⟩=some (.slice (some ⟨T,R,none⟩) M c6)/\W.cell? ⟨T,R+(k+j)*2,none⟩=some (.slice aj V ai))
     (first|with_reducible exact S7.out|with_reducible exact S8.out|with_reducible exact S9.out)
     (first
      | (go_at_call 52;refine(N.out _ _ _ R8.out (bu.out _ (C6.out.trans C8.out))).mono ?_;rintro _ w9 ⟨rfl,k9⟩;have C9:=JE (C8.out.trans k9.cs);have S9:=JE (I.out _ C9.out);have K9:=JE (K8.out.trans k9))
      | (go_at_call 55;refine(ax.out _ _ j H).mono ?_;rintro _ w8 ⟨⟨v8,rfl,r8,bG⟩,k8⟩;obtain⟨a8,n8,c8,rfl⟩:=aA r8;have R8:=JE r8;have K8:Hid (Kp d w8):=(NQ d).drew.trans k8;have C8:=JE (K8.out.cs);have S8:=JE (I.out _ C8.out)))
    have KF:=JE (aD.out.kp K9.out);have GF:Hid (az (λg=>g=m) w w9):=(NY U.out).next (G6.out.next (NY K9.out));have bE:Hid (az (λg=>g=m) w2 w9):=G6.out.next (NY K9.out);clear S7 S8 S9 aB zs N ax R8 f H;go_wp2_with fail;go_roundw
    case rel=>exact⟨j+1,by omega,by first|rfl|(rw[i1];rfl),KF.out,a1.out aK,bE.out⟩
    case measure=>simp[intOf];omega
   ·have N:=JE (λW (aa v:Value) (O:Rd W aa (aI (bo b j))) (Z:Rd W v ba)=>aX.out W aa v _ _ O Z)
    rw[Kb aK] at N;clear aX;go_wp2_with fail;try rw[aL]
    go_region_held3 (λW=>W.cell? ⟨wr.heap.size,0,none⟩=some (.int .i64 (X:Int))/\W.cell? ⟨wr.heap.size,1,none⟩=some (.slice aq nq cq)/\W.cell? ⟨ge,oe+j,none⟩=some (.slice a9 n9 c9))
     (first|with_reducible exact bM.out|with_reducible exact S5.out|with_reducible exact S6.out)
     (first
      | (go_at_call 59;refine(ao.out _ (X:Int) _ _ _ j (bt.out _ CD.out) (br.out _ CD.out)).mono ?_;rintro _ w5 ⟨⟨v5,rfl,r5,bI⟩,k5⟩;obtain⟨a5,n5,c5,rfl⟩:=aA r5;have C5:Hid (Cs A w5):=CD.out.trans k5.cs;have S5:=JE (aw.out _ C5.out);have L:=JE (bw.out.kp ((NQ A).drew.trans k5));have al:Hid (gW w5 (.agg #[.int .i64 (X:Int),.slice a5 n5 c5]) ⟨(X:Int),bo b j⟩):=⟨_,rfl,r5⟩;have ak:Hid (az (λg=>g=m) w2 w5):=bq.out.next (NY ((NQ A).drew.trans k5));obtain⟨d,o,a4,ag⟩:=zq (e:=90) 103 fT underlying103 L.out bk ⟨(X:Int),bo b j⟩ _ D al.out;dsimp only at o;have aE:=JE a4;have C6:Hid (Cs A d):=C5.out.trans (Cs.grown ag L.out.nosolid);have S6:=JE (aw.out _ C6.out);have G6:Hid (az (λg=>g=m) w2 d):=ak.out.then ag (λg hg=>by cases hg;exact .inr rfl)))
    have aD:Hid (KM prog 3 d m (F+(j+1)) (HL (j+1))):=aE.out.congr λy=>G.out y
    have af:HL (j+1) ⟨(X:Int),bo b j⟩:=(G.out _).2 (.inl rfl);have zs:=kR d.drew;have aB:=JE (aD.out.kp (NQ d).drew);have bK:=qE (X:Int);obtain⟨qd,f,H⟩:=tu (e:=90) 103 fT underlying103 zs aB.out ⟨(X:Int),bo b j⟩ af ad;obtain⟨bO,bJ,bN,rfl⟩:=aA H;dsimp only [sdV] at f
    obtain⟨g0,_,_⟩:=S6.out;have I:Hid (∀ W,Cs d W->W.cell? ⟨wr.heap.size,0,none⟩=some (.int .i64 (X:Int))/\W.cell? ⟨w.heap.size+1,1,none⟩=some (.slice (some ⟨T,R,none⟩) M c6)/\W.cell? ⟨T,R+(k+j)*2,none⟩=some (.slice aj V ai)):=λW u=>⟨u.cell S6.out.1,bC.out _ (C6.out.trans u)⟩
    have C7:Hid (Cs d d.drew):=(NQ d).drew.cs;have S7:=JE (I.out _ C7.out);clear bM S5 S6 L al ak ao D g0 aE o;go_wp2_with fail;go_region_held3 (λW=>W.cell? ⟨wr.heap.size,0,none⟩=some (.int .i64 (X:Int))/\W.cell? ⟨w.heap.size+1,1,none⟩=some (.slice (some ⟨T,R,none⟩) M c6)/\W.cell? ⟨T,R+(k+j)*2,none⟩=some (.slice aj V ai))
     (first|with_reducible exact S7.out|with_reducible exact S8.out|with_reducible exact S9.out)
     (first
      | (go_at_call 52;refine(N.out _ _ _ R8.out (bu.out _ (C6.out.trans C8.out))).mono ?_;rintro _ w9 ⟨rfl,k9⟩;have C9:=JE (C8.out.trans k9.cs);have S9:=JE (I.out _ C9.out);have K9:=JE (K8.out.trans k9))
      | (go_at_call 55;refine(ax.out _ _ j H).mono ?_;rintro _ w8 ⟨⟨v8,rfl,r8,bG⟩,k8⟩;obtain⟨a8,n8,c8,rfl⟩:=aA r8;have R8:=JE r8;have K8:Hid (Kp d w8):=(NQ d).drew.trans k8;have C8:=JE (K8.out.cs);have S8:=JE (I.out _ C8.out)))
    have KF:=JE (aD.out.kp K9.out);have GF:Hid (az (λg=>g=m) w w9):=(NY U.out).next (G6.out.next (NY K9.out));have bE:Hid (az (λg=>g=m) w2 w9):=G6.out.next (NY K9.out);clear S7 S8 S9 aB zs N ax R8 f H;go_wp2_with fail;go_ret2;exact⟨⟨_,_,rfl,.inr ⟨bv.out aK,rfl,bU _⟩⟩,GF.out⟩
  ·obtain rfl:j=J:=by omega
   have h1:¬(j:Int)<(j:Int):=by omega
   have Q:Hid (HP/\Rd wr (.slice ar nr cr) (aU b j)/\KM prog 3 wr m (F+j) (HL j)/\az (λg=>g=m) w wr):=⟨aF.out.2 aR.out,bQ.out.cs aG.out,aS.out,(NY U.out).next a0.out⟩;clear aP bb aN aF bd bc aW aO aQ aR aS;go_wp2_with fail;go_ret2;exact⟨⟨_,_,rfl,.inl ⟨Q.out.1,rfl,Q.out.2.1,Q.out.2.2.1⟩⟩,Q.out.2.2.2⟩
