import Derived.Test.YthmhklmkgkfcpaaGreatDoorV26
import Derived.Lib.SlKeysI
import Derived.Shelf.SlIterI.Nil
import Derived.Ground.GgzProg
set_option linter.all false
set_option maxHeartbeats 8000000
set_option maxRecDepth 100000
namespace Go.Proofs.YthmhklmkgkfcpaaGreatDoor
open Go.Proofs.Tryz Go.RowKit
variable {P:Program}{S:Sd->Prop}{j m n:Nat}{k:TypeId}{l:List Nat}{s:Sd}{t:List Nod}{w:World}{x:Int}
section
open Go.Maps Go.Sort
open Classical in
noncomputable def jV (S:Sd->Prop) (x:Int):Sd:=if h:∃ s,S s/\s.node=x then Classical.choose h else ⟨0,[]⟩
theorem GC (h:∃ s,S s/\s.node=x):S (jV S x)/\(jV S x).node=x:=by
 unfold jV;rw[dif_pos h];exact Classical.choose_spec h
theorem GD {D:DataW Value}(h:w.ownsMap P k dT m n D)(K:Keyed P k)(B:P.underlying k=some (.int .i64)):
  (intKeys D).Nodup/\∀ x,x∈intKeys D↔Maps.has D (.int .i64 x)=true:=by
 obtain⟨i,u,l,_⟩:=h.entries K;obtain⟨s,g,r⟩:=h.keysOf;obtain rfl:i=s:=by rw[u] at g;simpa using g
 subst u;have d:∀ p∈i,∃ x,p.1=.int .i64 x:=λp A=>by
  obtain⟨v,z⟩:=r p A;obtain⟨x,_,y,_⟩:=Maps.keyOf_i64 B z;exact⟨x,y⟩
 refine⟨?_,λx=>?_⟩
 ·show(i.map λp=>Go.intOf p.1).Nodup
  refine LC.2 (l.imp_of_mem λ{p q} c j o e=>o ?_);obtain⟨a,f⟩:=d p c;obtain⟨b,C⟩:=d q j;rw[f,C] at e ⊢;exact congrArg _ e
 ·rw[has_eq,Lj]
  show x∈i.map (λp=>Go.intOf p.1)↔_
  rw[Ju];constructor
  ·rintro⟨p,c,rfl⟩
   obtain⟨a,f⟩:=d p c;exact⟨p,c,by rw[f];simp[Lit.sameKey,Go.intOf]⟩
  ·rintro⟨p,c,t⟩
   obtain⟨a,f⟩:=d p c;rw[f] at t;exact⟨p,c,by rw[f];simpa [Lit.sameKey,Go.intOf] using t⟩
theorem KM.keys (h:KM P k w m n S)(K:Keyed P k)(H:P.underlying k=some (.int .i64)):
  ∃ D,w.ownsMap P k dT m n D/\Maps.size D<=n/\∀ e:List Int,e.Perm (intKeys D)->∃ l:List Sd,srt l/\(∀ y,y∈l↔S y)/\l.map (λs=>s.node)=e.mergeSort (λx y=>decide (x<=y))/\l.length=Maps.size D:=by
 obtain⟨⟨D,j,o,O⟩,N⟩:=h;obtain⟨Q,C⟩:=GD j K H;have t:(intKeys D).length=Maps.size D:=by
  obtain⟨R,M,_,_⟩:=j.entries K;subst M;show(R.map λp=>Go.intOf p.1).length=_
  rw[Jl];rfl
 refine⟨D,j,j.size_le,λe G=>?_⟩;have v:(e.mergeSort (λx y=>decide (x<=y))).Perm e:=List.mergeSort_perm e _;have E:∀ a b c:Int,leI a b=true->leI b c=true->leI a c=true:=λa b c j o=>by simp only[leI,decide_eq_true_eq] at *;exact Int.le_trans j o
 have F:∀ a b:Int,(leI a b || leI b a)=true:=λa b=>by simp only[leI,Mo,decide_eq_true_eq];exact Int.le_total a b
 have u:(e.mergeSort leI).Pairwise λa b=>leI a b=true:=List.pairwise_mergeSort E F e
 generalize T:e.mergeSort (λx y=>decide (x<=y))=L at *;have q:L.Pairwise λa b=>a<=b:=u.imp λ{a b} h=>by simpa [leI] using h
 have f:L.Perm (intKeys D):=v.trans G;have z:L.Nodup:=f.nodup_iff.2 Q;have A:L.Pairwise λa b=>a<b:=(List.Pairwise.and q z).imp λ{a b} h=>by
  obtain⟨j,o⟩:=h;have O:a≠b:=o;omega
 have d:∀ x∈L,S (jV S x)/\(jV S x).node=x:=λx i=>GC ((o x).1 ((C x).1 (f.subset i)))
 have r:(L.map (jV S)).map (λs=>s.node)=L:=by
  rw[List.map_map];refine(LL (g:=id) λx i=>(d x i).2).trans (List.map_id _)
 refine⟨L.map (jV S),?_,λy=>?_,r,by rw[Jl,f.length_eq,t]⟩
 ·unfold srt
  refine LC.2 (A.imp_of_mem λ{a b} J I h=>?_);rw[(d a J).2,(d b I).2];exact h
 ·rw[Ju]
  constructor
  ·rintro⟨x,i,rfl⟩
   exact(d x i).1
  ·intro B
   have i:y.node∈L:=f.symm.subset ((C _).2 ((o _).2 ⟨y,B,rfl⟩));obtain⟨a,b⟩:=d _ i;exact⟨y.node,i,N _ _ a B b⟩
end
theorem GG:(prog.info? 90).map (·.size)=some 2:=by kernel_rfl
theorem sj {g:Nat}{T:TypeId}{l j:Value}(i:Bx w g T #[l,j])(b a:Value):
  Bx ((w.setCell ⟨g,0,none⟩ b).setCell ⟨g,1,none⟩ a) g T #[b,a]/\aj (λk=>k=g) w ((w.setCell ⟨g,0,none⟩ b).setCell ⟨g,1,none⟩ a)/\∀ w0,Kp w0 w->w0.heap.size<=g->Kp w0 ((w.setCell ⟨g,0,none⟩ b).setCell ⟨g,1,none⟩ a):=by
 have c:=fP w g 0 [b,a] 0;exact⟨i.fill #[b,a] rfl,⟨c.os,c.tape,c.output,c.size,λq d f=>c.block q d λe=>f (by cases e;rfl)⟩,λw0 k h=>k.setCells h [b,a] 0⟩
theorem yi (x:Int)(q vs:Value)(c:List Int)(s:List UInt8)(w:World)(K:RI w q c)(z:Rd w vs s)(L:s.length<=2000):
  Calls prog 59 #[.agg #[.int .i64 x,q],vs] w λe w'=>(∃ v,e=.returned (.agg #[.int .i64 x,v])/\Rd w' v (bQ s fC)/\bg w.heap.size v)/\Kp w w':=by
 have Z:=Lib.hid (λW (U:Kp w W)=>xK vs ⟨#[110,111,100,101]⟩ s W (z.kp U) (by decide) L);obtain⟨D,u,B,rfl⟩:=K.sl;obtain⟨X,T,V,rfl⟩:=aA z;clear K z L;go_enter func59,ntmps59;go_wp2_with fail;obtain⟨h,b⟩:∃ h,(w.alloc (.cells #[.int .i64 x,.slice D u B] 99)).alloc (.cells #[.int .i64 0,.slice none 0 0] 90)=h:=⟨_,rfl⟩;have A:Bx h w.heap.size 99 #[.int .i64 x,.slice D u B]:=by rw[<-b];exact(Bx.new w _ _).kp ((Kp.refl _).alloc _)
 have f:Hid (Bx h (w.heap.size+1) 90 #[.int .i64 0,.slice none 0 0]):=by
  unfold Hid;have:=Bx.new (w.alloc (.cells #[.int .i64 x,.slice D u B] 99)) 90 #[.int .i64 0,.slice none 0 0];rw[IQ] at this;rw[<-b];exact this
 have E:Hid (Kp w h):=by unfold Hid;rw[<-b];exact((Kp.refl _).alloc _).alloc _
 have o:Hid (w.heap.size+1<h.heap.size):=(Iz.1 f.out).1;have HB:=Lib.hid A;have R:=A.cell 0;simp only[IJ,IF,IK] at R;rw[b];clear A b;go_region_with (first
  | (go_at_call 104;refine(Z.out _ (by first|exact E.out|exact E.out.drew)).mono ?_;rintro _ t ⟨⟨r9,rfl,r⟩,H⟩;have j:Hid (Kp h t):=(Kp.refl _).drew.trans H;obtain⟨m,a,l,rfl⟩:=aA r.rd;have Y:Hid (Rd t (.slice m a l) (bQ s fC)):=r.rd;have S:Hid (bg h.heap.size (.slice m a l)):=(λg M=>(Jw r g M).1);have Q:=(HB.out.kp j.out).cell 0;have i:=(f.out.kp j.out).there;have J:=(f.out.kp j.out).cell 0;have I:=(f.out.kp j.out).cell 1;have O:=(i 0 (by decide)).2;have N:=(i 1 (by decide)).2;clear i;rw[JA] at O N;simp only[IJ,IF,IK] at Q J I))
 all_goals (
  clear R Q J I O N r H;have d:=sj (f.out.kp j.out) (.int .i64 x) (.slice m a l);obtain⟨G,k⟩:∃ y,(t.setCell ⟨w.heap.size+1,0,none⟩ (.int .i64 x)).setCell ⟨w.heap.size+1,1,none⟩ (.slice m a l)=y:=⟨_,rfl⟩;rw[k] at d ⊢;have F:=Lib.hid d;have p:Hid (Rd G (.slice m a l) (bQ s fC)):=Y.out.stepF d.2.1 (dU (C:=h.heap.size) S.out λg M=>by have:=o.out;omega);have n:Hid (Kp w G):=d.2.2 w (E.out.trans j.out) (LM _);clear d k;go_wp2_with fail;refine bodyPost_ret (results_cell_row (P:=prog) rfl _ _ (w.heap.size+1) _ _ (0,0) _ rfl F.out.1 underlying90 rfl GG) rfl ?_;exact⟨⟨_,rfl,p.out,S.out.mono (by have:=o.out;omega)⟩,n.out⟩)
section
open Go.Maps
theorem fm:Keyed prog 3:=int_keyed underlying3
theorem jW (w:World):(zeroValue 90).run prog w=.ok (.agg #[.int .i64 0,.slice none 0 0]) w:=by kernel_rfl
theorem GH (n:Int)(w:World):(Instr.makeMap 103 (some (.int .i64 n))).run prog w=.ok (.map (some w.heap.size)) (w.alloc (.map #[] 0)):=by
 simp[Instr.makeMap,run_underlying underlying103,asInt,Result.andThen,newObj];rfl
theorem GI {own:List Sd}(h:srt own)(b:j<own.length)(y:Sd):y∈own.take (j+1)↔(y=aK own j\/(y∈own.take j/\y.node≠(aK own j).node)):=by
 rw[IP b,<-fG b,Jy,JR];have c:y∈own.take j->y.node<(aK own j).node:=λd=>by
  obtain⟨k,f,e⟩:=Jr d;rw[Ja] at f;have:=Jv.1 h k j (by omega) b (by omega);rw[Lr] at e;rw[fG b,<-e];exact this
 constructor
 ·rintro (a|a)
  ·exact .inr ⟨a,λe=>by have:=c a;omega⟩
  ·exact .inl a
 ·rintro (a|a)
  ·exact .inr a
  ·exact .inl a.1
theorem sk (v:Value)(own:List Sd)(w:World)(E:SL w v own)(R:srt own)(hl:own.length<=100000)(Q:∀ k,k<own.length->-9223372036854775808<=(aK own k).node/\(aK own k).node<=9223372036854775807):
  Calls prog 44 #[v] w λe w'=>(e=.returned (.map (some w.heap.size))/\KM prog 3 w' w.heap.size own.length (λy=>y∈own))/\Kp w w':=by
 have F:=GH;have U:=Lib.hid E;obtain⟨a,c,rfl,_,_⟩:=SE.shape E;have h:=Lib.hid (λj (hj:j<own.length) y=>GI R hj y);have g:=Lib.hid Q;have p:Hid (own.take own.length=own):=Jz;obtain⟨N,H⟩:∃ N,own.length=N:=⟨_,rfl⟩;have W:=Lib.hid H;rw[H] at U h g p hl ⊢;clear E R Q H;go_enter func44,ntmps44;go_wp2_with fail;obtain⟨D,f⟩:∃ D,w.alloc (.map #[] 0)=D:=⟨_,rfl⟩;have r:KM prog 3 D w.heap.size 0 (λy=>y∈own.take 0):=by
  rw[<-f];exact(KM.made w prog 3).congr λs=>by simp
 have u:Kp w D:=by rw[<-f];exact(Kp.refl _).alloc _
 rw[f];clear f F;have H0:=Lib.hid (IC r u);clear r u;go_loopw[11] (λx wr=>∃ i:Nat,i<=N/\x=.int .i64 (i:Int)/\KM prog 3 wr w.heap.size i (λy=>y∈own.take i)/\Kp w wr) (λx _=>(N - (intOf x).toNat))
 case atStart=>exact⟨0,IO _,rfl,H0.out⟩
 case round=>
  obtain⟨i,hi,rfl,A,b⟩:=hrel;have HR:=Lib.hid (IC A b);by_cases o:i<N
  ·obtain⟨g1,o1,c1,q1,I,_,q⟩:=SL.nodeK (i:=i) U.out (by rw[W.out];exact o)
   rw[W.out] at I;simp only[IG] at I;obtain⟨rfl,_,rfl⟩:=I;obtain⟨d0,d1,J⟩:=q wr b;obtain⟨C,z,B,rfl⟩:=aA J;have X:=Lib.hid J;have V:=Lib.hid (h.out i o);obtain⟨P,O⟩:=g.out i o;have i1:IntKind.i64.wrap ((i:Int)+1)=(i:Int)+1:=IA _ (by omega);have i3:(i:Int)<(N:Int):=by omega
   generalize G:aK own i=SD at *;clear G;obtain⟨l,S⟩:=SD;dsimp only at d0 d1 X V P O
   have t:Go.keyOf prog 3 (.int .i64 l)=some (.int .i64 l):=keyOf_int_mk underlying3 (Ku (by omega));have hn:i<maxLen:=by unfold maxLen;omega
   have K:Hid (KM prog 3 (wr.alloc (.cells #[.int .i64 l,.slice C z B] 90)) w.heap.size i (λy=>y∈own.take i)):=A.kp ((Kp.refl _).alloc _);have L:Hid (fX (wr.alloc (.cells #[.int .i64 l,.slice C z B] 90)) (.agg #[.int .i64 l,.slice C z B]) ⟨l,S⟩):=⟨_,rfl,X.out.kp ((Kp.refl _).alloc _)⟩;have T:Hid (Kp w (wr.alloc (.cells #[.int .i64 l,.slice C z B] 90))):=b.alloc _;clear q b A J h g p P O;go_wp2_with(at_mapUpdate;go_loud (refine DI (e:=90) rfl _ _ _ 103 rfl fm underlying103 rfl K.out hn ⟨l,S⟩ _ rfl rfl t L.out ?_;intro Y n d))
   have m:KM prog 3 Y w.heap.size (i+1) (λy=>y∈own.take (i+1)):=n.congr λy=>V.out y
   go_roundw
   case rel=>exact⟨i+1,by omega,by first|rfl|(rw[i1];rfl),m,Below.grown T.out d T.out.size (λk hk=>by cases hk;exact IB _)⟩
   case measure=>simp[intOf];omega
  ·obtain rfl:i=N:=by omega
   have aa:¬(i:Int)<(i:Int):=by omega
   clear A b h g;go_wp2_with fail;go_ret;obtain⟨M,Z⟩:=HR.out;rw[p.out] at M;exact⟨⟨rfl,M⟩,Z⟩
end
end Go.Proofs.YthmhklmkgkfcpaaGreatDoor
namespace Go.Proofs
open Go.Shelf
def Tryz.keysA_ren:Go.Shelf.Ren:=⟨fun|7=>108|10=>149|n=>n,fun|23=>103|26=>3|3=>90|28=>164|0=>0|27=>163|33=>139|4=>4|n=>n,fun|n=>n⟩
theorem Tryz.keysA:Go.Proofs.SlLaysZI.n7 Tryz.prog Tryz.keysA_ren:={
 mixed:=by kernel_rfl
 f7:=⟨Tryz.f108.name,by decide,Tryz.func108.trans (congrArg some (by kernel_rfl))⟩
 f10:=⟨Tryz.f149.name,by decide,Tryz.func149.trans (congrArg some (by kernel_rfl))⟩
 t0:=Tryz.underlying0
 a0:=Tryz.isAgg0
 z0:=Tryz.sizeOf0
 v0:=Tryz.zeroValue0
 t4:=Tryz.underlying4
 a4:=Tryz.isAgg4
 z4:=Tryz.sizeOf4
 v4:=Tryz.zeroValue4
 t23:=Tryz.underlying103
 a23:=Tryz.isAgg103
 z23:=Tryz.sizeOf103
 v23:=Tryz.zeroValue103
 t26:=Tryz.underlying3
 a26:=Tryz.isAgg3
 z26:=Tryz.sizeOf3
 v26:=Tryz.zeroValue3
 t27:=Tryz.underlying163
 a27:=Tryz.isAgg163
 z27:=Tryz.sizeOf163
 v27:=Tryz.zeroValue163
 t28:=Tryz.underlying164
 a28:=Tryz.isAgg164
 z28:=Tryz.sizeOf164
 v28:=Tryz.zeroValue164
 t33:=Tryz.underlying139
 a33:=Tryz.isAgg139
 z33:=Tryz.sizeOf139
 v33:=Tryz.zeroValue139 }
def Tryz.sortedA_ren:Go.Shelf.Ren:=⟨fun|6=>107|8=>147|9=>148|11=>181|13=>183|12=>182|23=>221|24=>222|14=>212|15=>213|16=>214|17=>215|18=>216|19=>217|20=>218|21=>219|22=>220|25=>251|26=>252|27=>253|28=>254|29=>255|30=>256|31=>269|n=>n,fun|26=>3|28=>164|24=>34|0=>0|3=>3|37=>205|48=>247|50=>249|4=>4|40=>241|39=>240|45=>143|5=>5|9=>9|51=>270|55=>274|57=>288|58=>69|33=>139|n=>n,fun|n=>n⟩
theorem Tryz.sortedA:Go.Proofs.SlLaysZI.n6 Tryz.prog Tryz.sortedA_ren:={
 mixed:=by kernel_rfl
 f6:=⟨Tryz.f107.name,by decide,Tryz.func107.trans (congrArg some (by kernel_rfl))⟩
 f8:=⟨Tryz.f147.name,by decide,Tryz.func147.trans (congrArg some (by kernel_rfl))⟩
 f11:=⟨Tryz.f181.name,by decide,Tryz.func181.trans (congrArg some (by kernel_rfl))⟩
 t0:=Tryz.underlying0
 a0:=Tryz.isAgg0
 z0:=Tryz.sizeOf0
 v0:=Tryz.zeroValue0
 t24:=Tryz.underlying34
 a24:=Tryz.isAgg34
 z24:=Tryz.sizeOf34
 v24:=Tryz.zeroValue34
 t26:=Tryz.underlying3
 a26:=Tryz.isAgg3
 z26:=Tryz.sizeOf3
 v26:=Tryz.zeroValue3
 t28:=Tryz.underlying164
 a28:=Tryz.isAgg164
 z28:=Tryz.sizeOf164
 v28:=Tryz.zeroValue164
 i26:=by kernel_rfl }
end Go.Proofs
namespace Go.Proofs.YthmhklmkgkfcpaaGreatDoor
open Go.Proofs.Tryz Go.RowKit
variable {P:Program}{S:Sd->Prop}{j m n:Nat}{k:TypeId}{l:List Nat}{s:Sd}{t:List Nod}{w:World}{x:Int}
section
open Go.Maps Go.Shelf Go.Sort
theorem GJ (m:Nat):AnyZI.SortsIn prog sortedA_ren Fence.wide m:=
 ⟨λe c a f W g b d=>callsIn_wide.2 (slices_Sort_int e c a f W g b d),
  λp a W=>callsIn_wide.2 (slices_Sort_int_none p a W)⟩
theorem GK (m:Nat)(W:World):Calls prog 108 #[.map (some m)] W λe w'=>e=.returned (.func (.func 149) #[] #[.pointer (some ⟨W.heap.size,0,none⟩)])/\w'=W.alloc (.cells #[.map (some m)] 103):=
 callsIn_wide.1 (AnyZI.keys_in keysA Fence.wide 5 trivial rfl (some m) W)
theorem GM (w:World)(h:KM prog 3 w m n S)(J:n<=1000000):
  Calls prog 107 #[.func (.func 149) #[] #[.pointer (some ⟨w.heap.size,0,none⟩)]] (w.alloc (.cells #[.map (some m)] 103)) λe w'=>
   (∃ v l,e=.returned v/\srt l/\(∀ y,y∈l↔S y)/\l.length<=n/\OI 3 w' w.heap.size v (l.map (λs=>s.node)))/\Kp w w':=by
 obtain⟨D,p,K,C⟩:=h.keys fm underlying3;have f:=p.lt;have c:SeqGives Fence.wide 2 prog 149 #[.pointer (some ⟨w.heap.size,0,none⟩)] encZ (λd=>d.Perm (intKeys D)) (Maps.size D) (w.alloc (.cells #[.map (some m)] 103)):=
  AnyZI.keys_gives (ρ:=keysA_ren) { keysA with } Fence.wide _ trivial rfl (by omega) w.heap.size m n D _ (by simp) (by simp) (by
   obtain⟨E,b,i,H,x,B⟩:=p;exact⟨E,b,(Below.heap_alloc _ _ m f).trans i,H,x,B⟩)
 have q:=AnyZI.sorted_in sortedA Fence.wide 5 trivial trivial trivial trivial rfl (by omega) (GJ _) (enters_of func148 (by kernel_rfl) rfl) 149 #[.pointer (some ⟨w.heap.size,0,none⟩)] trivial (enters_of func149 (by kernel_rfl) rfl) _ _ (by unfold maxLen;omega) (by omega) _ c;change CallsIn _ _ prog 107 _ _ _ at q;refine(callsIn_wide.1 q).mono ?_;rintro e w' ⟨v,d,rfl,A,a,_,i⟩;obtain⟨l,t,r,o,I⟩:=C d A;have u:Kp w w':=((Kp.refl w).alloc _).trans i;refine⟨⟨v,l,rfl,t,r,by omega,?_⟩,u⟩;have z:(l.map (λs=>s.node)).length=d.length:=by rw[o,List.length_mergeSort]
 unfold OI;rw[Jl,z,o];exact⟨a.1,a.2.imp id fun⟨g,k,j,G,F,rest⟩=>⟨g,k,j,G,by rw[IQ] at F;omega,rest⟩⟩
end
section
open Go.Maps
theorem pJ (x:Int)(a:Option Addr)(n c:Nat)(w:World):(Instr.field 90 (.agg #[.int .i64 x,.slice a n c]) 1).run prog w=.ok (.slice a n c) w:=by kernel_rfl
theorem GN {l:List Sd}{k:Nat}(h:k<l.length):l.take (k+1)=l.take k++[aK l k]:=by
 rw[IP h,<-fG h]
theorem yj (w:World)(h:KM prog 3 w m n S)(hn:n<=100000)(A:∀ s,S s->-9223372036854775808<=s.node/\s.node<=9223372036854775807)(B:∀ s,S s->s.seed.length<=2000):
  Calls prog 61 #[.map (some m)] w λe w'=>(∃ v l,e=.returned v/\srt l/\(∀ y,y∈l↔S y)/\GZ fu 90 (λg=>g<w.heap.size) w' w.heap.size v l)/\Kp w w':=by
 have HK:=Lib.hid (λW=>GK m W);have J:=Lib.hid (GM w h (by omega));have HM:=Lib.hid h;have aj:=Lib.hid (λW (v:Value) (l:List UInt8) (hv:Rd W v l) (hl:l.length<=2000)=>qL v l W hv (by omega));have H:=Lib.hid A;have K:=Lib.hid B;clear h A B;go_enter func61,ntmps61;go_wp2_with fail;refine(HK.out w).mono ?_;rintro _ _ ⟨rfl,rfl⟩;go_wp2_with fail;refine J.out.mono ?_;rintro _ p ⟨⟨v1,l,rfl,hs,b,aa,Y⟩,k1⟩;obtain⟨a1,c1,rfl,p1,s1⟩:=Y.ri.shape;rw[Jl] at *;have z:=Lib.hid (IC Y k1);have L:=Lib.hid b;have HS:=Lib.hid hs;obtain⟨N,hN⟩:∃ N,l.length=N:=⟨_,rfl⟩;have d:=Lib.hid (λk (h:k<l.length)=>GN h);have I:Hid (l.take l.length=l):=Jz;have f:Hid (∀ k,k<l.length->S (aK l k)/\(l.map (λs=>s.node)).getD k 0=(aK l k).node):=λk F=>⟨(b _).1 (mS F),by
  rw[Iw,Jt,Iy F,fG F];rfl⟩
 rw[hN] at d I f aa p1 z ⊢;clear Y k1 b hs hN J HK;go_wp2_with fail;go_loopw[3,10] (λx y wr=>∃ j:Nat,j<=N/\y=.int .i64 (j:Int)/\GZ fu 90 (λg=>g<p.heap.size) wr p.heap.size x (l.take j)/\Kp p wr) (λ_ y _=>(N - (intOf y).toNat))
 case atStart=>exact⟨0,IO _,rfl,by rw[Lq];exact GZ.nil _ _ _,Kp.refl _⟩
 case round=>
  obtain⟨j,hj,rfl,a,D⟩:=hrel;have i:=Lib.hid (IC a D);obtain⟨ax,nx,cx,rfl⟩:=SE.sl a.gl;clear a D;by_cases c:j<N
  ·obtain⟨gq,oq,rfl,_,G⟩:=(z.out.1.ri.kp i.out.2).at j c
   have c0:=G j c;obtain⟨U,T⟩:=f.out j c;rw[T] at c0;have ae:=Lib.hid (d.out j c);obtain⟨Q,P⟩:=H.out _ U;have r:=Lib.hid (K.out _ U);obtain⟨u,O⟩:Sd:=aK l j;generalize ab:aK l j=SD at *;obtain⟨u,O⟩:=SD;dsimp only at c0 Q P r T
   have E:Go.keyOf prog 3 (.int .i64 u)=some (.int .i64 u):=keyOf_int_mk underlying3 (Ku (by omega));have i1:IntKind.i64.wrap ((j:Int)+1)=(j:Int)+1:=IA _ (by omega);have i3:(j:Int)<(N:Int):=by omega
   have af:Hid (KM prog 3 wr m n S):=HM.out.kp (z.out.2.trans i.out.2);have zs:=jW wr;have ak:=pJ u;have ad:Hid ((l.take j).length+1<=1000000):=by unfold Hid;rw[Ja];omega
   generalize l.take j=TK at *;clear G d f H K ab T;go_wp2_with(at_lookup;go_loud (refine DK (e:=90) rfl _ _ 103 rfl fm underlying103 zs rfl af.out ⟨u,O⟩ U rfl E ?_;intro q X;obtain⟨aq,nq,al,rfl⟩:=aA X;dsimp only [sdV]))
   refine(aj.out wr _ O X r.out).mono ?_;rintro _ w5 ⟨vB,rfl,M,V⟩;obtain⟨aB,nB,cB,rfl⟩:=aA M.rd;have ag:Hid (∀ g,(Value.slice ax nx cx).ownBlock=some g->g<wr.heap.size):=λg t=>(i.out.1.lt g t).2
   have ai:Hid (fu.R (λg=>some g=(Value.slice ax nx cx).ownBlock\/g<p.heap.size) w5 [.int .i64 u,.slice aB nB cB] ⟨u,O⟩):=
    ⟨_,rfl,M.rd,dU (C:=wr.heap.size) (λg t=>(Jw M g t).1) λg t=>t.elim (λh=>ag.out g h.symm) λh=>by have:=i.out.2.size;omega⟩
   have ah:=Lib.hid (i.out.1.kp V);have KB:=Lib.hid (i.out.2.trans V);clear X M V zs c0;go_wp2_with(at_builtin;go_loud (refine gQ (S:=fu) (Z:=λg=>g<p.heap.size) (o:=⟨some 23,_,_,_,_,_⟩) sdK rfl _ _ rfl p.heap.size _ TK rfl (ah.out.kp ((Kp.refl _).alloc _)) _ [_] rfl (SE.litZ (S:=fu) 90 ai.out rfl) (by exact ad.out) (IU KB.out.size (by simp)) ?_;intro vF wh oh gh _;have kF:Hid (Kp p wh):=Kp.grown (KB.out.alloc _) gh (λk F=>(i.out.1.lt k F).1)))
   rw[<-ae.out] at oh;go_roundw
   case rel=>exact⟨j+1,by omega,by first|rfl|(rw[i1];rfl),oh,kF.out⟩
   case measure=>simp[intOf];omega
  ·obtain rfl:j=N:=by omega
   have h1:¬(j:Int)<(j:Int):=by omega
   have a:=i.out.1;rw[I.out] at a;have HF:=Lib.hid (IC ((a.solidly λg t=>.inr (.inl (show g<p.heap.size from II t z.out.2.size))).mono z.out.2.size) (z.out.2.trans i.out.2));clear a d f;go_wp2_with fail;go_ret;exact⟨⟨_,rfl,l,HS.out,L.out,HF.out.1⟩,HF.out.2⟩
end
structure dC (w:World)(gc gs:Nat)(secret:List UInt8)(n:Nat):Prop where
 mk ::
 cnt:Bx w gc 3 #[.int .i64 (n:Int)]
 sec:∃ v,Bx w gs 24 #[v]/\RZ (λg=>g=gc) w v secret
 ne:gc≠gs
theorem dC.kp {w':World}{gc a:Nat}{s:List UInt8}(h:dC w gc a s n)(k:Kp w w'):dC w' gc a s n:=by
 obtain⟨e,⟨v,d,c⟩,b⟩:=h;exact⟨e.kp k,⟨v,d.kp k,c.kp k⟩,b⟩
theorem GR (gc i n:Nat)(secret:List UInt8)(w:World)(h:dC w gc i secret n)(P:n<1000000)(Q:secret.length<=2000):
  Calls prog 99 #[.pointer (some ⟨gc,0,none⟩),.pointer (some ⟨i,0,none⟩)] w λe w'=>(∃ v,e=.returned v/\Rd w' v (dG secret n)/\bg w.heap.size v)/\dC w' gc i secret (n+1)/\aj (λg=>g=gc) w w':=by
 obtain⟨o,⟨v,G,F⟩,k⟩:=h;have m:=Lib.hid (λW=>jG (n:Int) 4 W (by omega));rw[DF (by omega)] at m;have y:=Lib.hid (λW (M:Value) (Y:Rd W v secret) (o:Rd W M (be 4 n))=>oN v ⟨#[111,110,99,101]⟩ M secret (be 4 n) 32 W Y o (by decide) (by rw[bT];omega) Q (by omega));obtain⟨t,p,s,rfl⟩:=aA F.1;have U:=Lib.hid o;have L:=Lib.hid G;have T:=Lib.hid F;have R:=o.cell 0;simp only[IJ,IF] at R;have i1:IntKind.i64.wrap ((n:Int)+1)=((n+1:Nat):Int):=by rw[IA _ (by omega)];omega
 generalize iE (n:Int) 4=NE at *;have r:Hid (gc<w.heap.size/\i<w.heap.size):=⟨(Iz.1 o).1,(Iz.1 G).1⟩;clear o G F Q;go_enter func99,ntmps99;go_wp2_with fail;refine(m.out w).mono ?_;rintro _ z ⟨v1,rfl,E,f⟩;obtain⟨a1,X,c1,rfl⟩:=aA E.rd;have S:=Lib.hid (IC E f);have d:=U.out.kp f;have d0:=d.cell 0;have d1:=d.frozen 0;simp only[IJ,IF] at d0;obtain⟨w2,c⟩:∃ x,z.setCell ⟨gc,0,none⟩ (.int .i64 ((n:Int)+1))=x:=⟨_,rfl⟩;have b:aj (λg=>g=gc) z w2:=by rw[<-c];exact(aj.refl _ _).setCell _ _ (.inr rfl)
 have l:=(L.out.kp f).cell 0;simp only[IJ,IF] at l;have Z:(z.setCell ⟨gc,0,none⟩ (.int .i64 ((n:Int)+1))).cell? ⟨i,0,none⟩=some (.slice t p s):=by rw[c];exact b.cell l (λe=>k e.symm)
 have J:Hid (Bx w2 gc 3 #[.int .i64 ((n+1:Nat):Int)]):=by
  unfold Hid;rw[<-c,show((n+1:Nat):Int)=(n:Int)+1 by omega];exact d.set 0 (.int .i64 ((n:Int)+1))
 have K:Hid (Bx w2 i 24 #[.slice t p s]):=(b.block i (by have:=r.out;have:=f.size;omega) (λe=>k e.symm)).trans (L.out.kp f);have u:=Lib.hid ((T.out.kp f).step b);have a:=Lib.hid (IC b f);have H:=Lib.hid c;have I:Hid (Rd w2 (.slice a1 X c1) (be 4 n)):=S.out.1.rd.stepF b (dU (C:=w.heap.size) (λg B=>(Jw S.out.1 g B).1) λg B=>by have:=r.out;omega);clear E f m R b c l d L T U;go_wp2_with fail;rw[H.out];refine(y.out w2 _ u.out.1 I.out).mono ?_;rintro _ D ⟨⟨v3,rfl,A⟩,j⟩;obtain⟨a3,V,c3,rfl⟩:=aA A.rd;have HF:Hid (((∃ v,Ending.returned (.slice a3 V c3)=.returned v/\Rd D v (dG secret n)/\bg w.heap.size v)/\dC D gc i secret (n+1)/\aj (λg=>g=gc) w D)):=
  ⟨⟨_,rfl,A.rd,λg B=>IU (IU a.out.2.size a.out.1.size) (Jw A g B).1⟩,dC.kp ⟨J.out,⟨_,K.out,u.out⟩,k⟩ j,
   ⟨j.os.trans (a.out.1.os.trans a.out.2.os),j.tape.trans (a.out.1.tape.trans a.out.2.tape),j.output.trans (a.out.1.output.trans a.out.2.output),IU a.out.2.size (IU a.out.1.size j.size),λq O P=>by
    have N:q<z.heap.size:=II O a.out.2.size;exact(j.block q (II N a.out.1.size)).trans ((a.out.1.block q N P).trans (a.out.2.block q O))⟩⟩
 clear A j Z y;go_wp2_with fail;go_ret;exact HF.out
theorem GS (v:Value)(secret:List UInt8)(w:World)(b:Rd w v secret):
  Calls prog 57 #[v] w λe w'=>(e=.returned (.func (.func 99) #[] #[.pointer (some ⟨w.heap.size+1,0,none⟩),.pointer (some ⟨w.heap.size,0,none⟩)])/\dC w' (w.heap.size+1) w.heap.size secret 0)/\Kp w w':=by
 have d:=Lib.hid b;obtain⟨a,n,c,rfl⟩:=aA b;clear b;go_enter func57,ntmps57;go_wp2_with fail;go_ret;refine⟨⟨rfl,?_,⟨_,(Bx.new w _ _).kp ((Kp.refl _).alloc _),d.out.kp (((Kp.refl _).alloc _).alloc _),mX (w:=w) d.out.inside λg f=>by omega⟩,by omega⟩,((Kp.refl _).alloc _).alloc _⟩;have:=Bx.new (w.alloc (.cells #[.slice a n c] 24)) 3 #[.int .i64 0];rw[IQ] at this;exact this
section
open Go.Maps
theorem Hf {own:List Sd}(h:srt own)(b:s∈own):ba own s.node=s.seed:=by
 induction own with
 | nil=>cases b
 | cons a l ih=>
  unfold ba
  rcases JP.1 b with e|e
  ·rw[e,if_pos rfl]
  ·have:=(KN.1 h).1 s e
   rw[if_neg (by omega)]
   exact ih (KN.1 h).2 e
theorem Hg {own:List Sd}(h:∀ s∈own,s.node≠x):ba own x=[]:=by
 induction own with
 | nil=>rfl
 | cons a l ih=>
  unfold ba
  rw[if_neg (h a (by simp))]
  exact ih λs b=>h s (by simp[b])
theorem Hh (aa n s x y vi:Value)(t:List Nod)(K i k m aD:Nat)(own:List Sd)(info:List UInt8)(p:Pa)(w:World)(hu:WIn w aa n s t K i)(hm:KM prog 3 w m aD (λy=>y∈own))(al:srt own)(aB:∀ s∈own,s.seed.length=32)(hi:Rd w vi info)(Z:PIn w x y p)
  (hk:k<(ixS t i K).length) (Y:p.step.length=(ixS t i K).length) (B:(am p.step k).fors.length=((aT t i K).getD k []).length) (ay:∀ j,j<((aT t i K).getD k []).length->0<=((aT t i K).getD k []).getD j 0/\((aT t i K).getD k []).getD j 0<=1000000) (av:info.length<=1400) (az:∀ j,(aM (am p.step k).fors j).b.length<=1600):
  Calls prog 70 #[.agg #[aa,.int .i64 (i:Int),n,s],.int .i64 (k:Int),.map (some m),vi,.agg #[x,y]] w λe w'=>
   (∃ r,e=.returned (.tuple #[r,.int .i64 (dJ own info ((aT t i K).getD k []) (am p.step k).fors).2])/\Rd w' r (dJ own info ((aT t i K).getD k []) (am p.step k).fors).1)/\Kp w w':=by
 obtain⟨gs,os,cs,q,e1,_,c0,c1,rq⟩:=aH.sp (i:=k) hu.steps (by rw[gI];exact hk);rw[jU hk] at rq c0;dsimp only at rq c0
 obtain⟨gp,op,J,pv,qv,e2,_,ap⟩:=eG.nodeK (i:=k) Z.step (by rw[Y];exact hk);obtain⟨d0,d1,rp,rf⟩:=ap w (Kp.refl _);have T:=gI t i K;rw[T] at e1;rw[Y] at e2;subst e1 e2;generalize (aT t i K).getD k []=who at *;generalize (aw t i K).getD k 0=X at *;generalize (ixS t i K).length=M at *;generalize (am p.step k).fors=G at *;have c:=Lib.hid (λj hj Z h=>show dJ own info who G=lq (ba own (who.getD j 0)) info (aM G j).half (aM G j).b from Hd (own:=own) (info:=info) (who:=who) (f:=G) (k:=j) hj B Z h);have a:=Lib.hid (λZ=>He (own:=own) (info:=info) (who:=who) (f:=G) Z);have ak:=Lib.hid (λs (hs:s∈own)=>IC (Hf al hs) (aB s hs));have aj:=Lib.hid (λx (h:∀ s∈own,s.node≠x)=>Hg h);have O:=Lib.hid (λW (v x y:Value) (seed half b:List UInt8) (d:Kp w W) (h1:Rd W v seed) (h2:Rd W x half) (h3:Rd W y b) hb=>FG v vi x y seed info half b W h1 (hi.kp d) h2 h3 av hb);have HM:=Lib.hid hm;have aG:=Lib.hid rq;have aI:=Lib.hid rf;have E:=Lib.hid ay;have P:=Lib.hid az;have HC:=Lib.hid (λW (d:Kp w W)=>IC (d.cell c1) (d.cell d1));obtain⟨au,nu,cu,rfl⟩:=hu.tree.sl;obtain⟨an,nn,cn,rfl⟩:=hu.nodes.sl;obtain⟨ax,nx,cx,rfl⟩:=aA Z.pub;obtain⟨ai,ni,ci,rfl⟩:=aA hi;obtain⟨aq,cq,rfl,p1,s1⟩:=rq.shape;obtain⟨af,cf,rfl,aW,s3⟩:=SE.shape rf;generalize dJ own info who G=L at *;obtain⟨N,hN⟩:∃ N,who.length=N:=⟨_,rfl⟩;rw[B] at aW;rw[hN] at p1 aW aG c a E;have aK:Hid (G.length=N):=B.trans hN;have i0:¬(k:Int)<0:=by omega
 have i3:(k:Int)<(M:Int):=by omega
 clear hu hm al aB hi Z Y ay av az ap rp rf rq c0 c1 d0 d1 T;rw[B,hN] at aI HC;unfold maxLen at s1;clear B hN;go_enter func70,ntmps70;have e9:(w.alloc (.cells #[.slice au nu cu,.int .i64 (i:Int),.slice an nn cn,.slice (some ⟨gs,os,none⟩) M cs] 95)).heap.size=w.heap.size+1:=IQ _ _;obtain⟨w1,o⟩:∃ w1,(w.alloc (.cells #[.slice au nu cu,.int .i64 (i:Int),.slice an nn cn,.slice (some ⟨gs,os,none⟩) M cs] 95)).alloc (.cells #[.slice ax nx cx,.slice (some ⟨gp,op,none⟩) M J] 27)=w1:=⟨_,rfl⟩;have C:Hid (Kp w w1):=by unfold Hid;rw[<-o];exact((Kp.refl _).alloc _).alloc _
 have HB:Hid (Bx w1 (w.heap.size+1) 27 #[.slice ax nx cx,.slice (some ⟨gp,op,none⟩) M J]):=by
  unfold Hid;have:=Bx.new (w.alloc (.cells #[.slice au nu cu,.int .i64 (i:Int),.slice an nn cn,.slice (some ⟨gs,os,none⟩) M cs] 95)) 27 #[.slice ax nx cx,.slice (some ⟨gp,op,none⟩) M J];rw[e9] at this;rw[<-o];exact this
 have c3:=(HC.out ((w.alloc (.cells #[.slice au nu cu,.int .i64 (i:Int),.slice an nn cn,.slice (some ⟨gs,os,none⟩) M cs] 95)).alloc (.cells #[.slice ax nx cx,.slice (some ⟨gp,op,none⟩) M J] 27)) (by rw[o];exact C.out)).1;have aF:=Lib.hid o;clear o e9;go_wp2_with fail;rw[aF.out];clear aF c3;go_loopw[25] (λx wr=>∃ j:Nat,j<=N/\x=.int .i64 (j:Int)/\(∀ z,z<j->(ba own (who.getD z 0)).length=0)/\Kp w1 wr) (λx _=>(N - (intOf x).toNat))
 case atStart=>exact⟨0,IO _,rfl,λz h=>by omega,Kp.refl _⟩
 case round=>
  obtain⟨j,hj,rfl,R,ar⟩:=hrel;have D:=Lib.hid R;have l:=Lib.hid ar;clear R ar;by_cases u:j<N
  ·obtain⟨gq,oq,rfl,_,ae⟩:=(aG.out.kp (C.out.trans l.out)).at j u
   have aC:=ae j u;have Q:=E.out j u;obtain⟨X,hX⟩:∃ X,who.getD j 0=X:=⟨_,rfl⟩;rw[hX] at aC Q;obtain⟨v1,v2⟩:=Q;have i1:IntKind.i64.wrap ((j:Int)+1)=(j:Int)+1:=IA _ (by omega);have i4:(j:Int)<(N:Int):=by omega
   have A:Go.keyOf prog 3 (.int .i64 X)=some (.int .i64 X):=keyOf_int_mk underlying3 (Ku (by omega));have aJ:Hid (KM prog 3 wr m aD (λy=>y∈own)):=HM.out.kp (C.out.trans l.out);by_cases ad:∃ s∈own,s.node=X
   ·obtain⟨⟨SN,SS⟩,V,H⟩:=ad
    dsimp only at H
    obtain⟨f1,f2⟩:=ak.out ⟨SN,SS⟩ V;dsimp only at f1 f2
    obtain⟨gf,of,aP,ph,pb,e3,_,S⟩:=EL.nodeK (i:=j) aI.out (by rw[aK.out];exact u);rw[aK.out] at e3;simp only[IG] at e3;obtain⟨rfl,_,rfl⟩:=e3;have HX:Hid (L=lq SS info (aM G j).half (aM G j).b):=by
     have:=c.out j u D.out (by rw[hX,<-H,f1,f2];decide);rw[hX,<-H,f1] at this;exact this
    have g:=Lib.hid S;have aR:=Lib.hid (P.out j);have U:=Lib.hid (λW (d:Kp wr W) (q:Value) (hq:Rd wr q SS)=>O.out W q ph pb SS (aM G j).half (aM G j).b ((C.out.trans l.out).trans d) (hq.kp d) (g.out W ((C.out.trans l.out).trans d)).2.2.1 (g.out W ((C.out.trans l.out).trans d)).2.2.2 aR.out);rw[<-HX.out] at U;obtain⟨ah,nh,ch,rfl⟩:=aA (g.out w (Kp.refl _)).2.2.1;obtain⟨ab,nb,cb,rfl⟩:=aA (g.out w (Kp.refl _)).2.2.2;have F:=Lib.hid (λW (d:Kp wr W)=>IC ((HB.out.kp (l.out.trans d)).cell 1) (IC (HC.out W ((C.out.trans l.out).trans d)).2 (IC (g.out W ((C.out.trans l.out).trans d)).1 (g.out W ((C.out.trans l.out).trans d)).2.1)));have aE:Hid (Kp w wr):=C.out.trans l.out;have zs:=jW wr;subst H;clear hX HX c a O E P ak aj ae D f1 f2 S;go_wp2_with(at_lookup;go_loud (refine vQ (e:=90) rfl _ _ 103 rfl fm underlying103 zs rfl aJ.out ⟨SN,SS⟩ V rfl A ?_;intro q hq;obtain⟨aq,nq,ag,rfl⟩:=aA hq;dsimp only [sdV]))
    obtain⟨WQ,I⟩:∃ x,wr.alloc (.cells #[.int .i64 SN,.slice aq nq ag] 90)=x:=⟨_,rfl⟩;have KQ:Hid (Kp wr WQ):=by unfold Hid;rw[<-I];exact(Kp.refl _).alloc _
    have aS:WQ.cell? ⟨wr.heap.size,1,none⟩=some (.slice aq nq ag):=by
     have:=(Bx.new wr 90 #[.int .i64 SN,.slice aq nq ag]).cell 1;rw[<-I];simp
    obtain⟨aO,aV,aU,aP⟩:=F.out WQ KQ.out;simp only[IJ,IF,IK] at aO;have HQ:=Lib.hid hq;rw[I];clear I F hq zs A aC V;go_region_with (first
     | (go_at_call 120;refine(U.out _ (by first|exact KQ.out|exact KQ.out.drew) _ HQ.out).mono ?_;rintro _ w9 ⟨⟨r9,rfl,o9⟩,k9⟩;obtain⟨a9,aN,aQ,rfl⟩:=aA o9;have aL:Hid (Rd w9 (.slice a9 aN aQ) L.1/\Kp w w9):=⟨o9,(aE.out.trans (by first|exact KQ.out|exact KQ.out.drew)).trans k9⟩))
    all_goals (
     go_wp2_with fail;go_ret2;exact⟨⟨_,rfl,aL.out.1⟩,aL.out.2⟩)
   ·have ao:∀ s∈own,s.node≠X:=λs h e=>ad ⟨s,h,e⟩
    have HP:Hid (∀ z,z<j+1->(ba own (who.getD z 0)).length=0):=λz hz=>by
     rcases Jc (Jn.1 hz) with h3|h3
     ·exact D.out z h3
     ·rw[h3,hX,aj.out X ao];rfl
    have zs:=jW wr;clear hX c a O E P ak aj ae D ad;go_wp2_with(at_lookup;go_loud (refine vR (e:=90) rfl _ _ 103 rfl fm underlying103 zs rfl aJ.out X ao rfl A ?_))
    go_roundw
    case rel=>exact⟨j+1,by omega,by first|rfl|(rw[i1];rfl),HP.out,l.out.alloc _⟩
    case measure=>simp[intOf];omega
  ·obtain rfl:j=N:=by omega
   have h1:¬(j:Int)<(j:Int):=by omega
   have HX:=Lib.hid (a.out D.out);have HF:Hid ((∃ r,Ending.returned (.tuple #[Value.slice none 0 0,.int .i64 5])=.returned (.tuple #[r,.int .i64 L.2])/\Rd wr r L.1)/\Kp w wr):=by rw[HX.out];exact⟨⟨_,rfl,cQ _⟩,C.out.trans l.out⟩
   clear HX a c O E P;go_wp2_with fail;go_ret2;exact HF.out
open Classical in
noncomputable def jw (t:List Nod) (own:List Sd) (l:List Nat):Nat:=(l.filter λx=>decide (fc t own x)).length
theorem Hx {own:List Sd}(h:j<l.length)(b:fc t own (l.getD j 0)):jw t own (l.take (j+1))=jw t own (l.take j)+1:=by
 unfold jw;rw[Iw,Iy h] at b;have a:fc t own l[j]:=b;rw[IP h,List.filter_append,IE,List.filter_cons,if_pos (by simpa using a)];rfl
theorem Hy {own:List Sd}(h:j<l.length)(b:¬fc t own (l.getD j 0)):jw t own (l.take (j+1))=jw t own (l.take j):=by
 unfold jw;rw[Iw,Iy h] at b;have a:¬fc t own l[j]:=b;rw[IP h,List.filter_append,IE,List.filter_cons,if_neg (by simpa using a)];rfl
theorem Hz (t:List Nod)(own:List Sd)(l:List Nat):jw t own l<=l.length:=Me _ _
theorem Ia {own:List Sd}(k:srt own){x:Nat}(h:s∈own)(c:s.node=(x:Int)):fc t own x↔(fj s.seed=0/\dE s.seed=(ats t x).pub):=by
 constructor
 ·rintro⟨e,j,i,g,f⟩
  obtain rfl:e=s:=vH k j h (i.trans c.symm);obtain⟨a,b⟩:=eZ g;exact⟨a,b.trans f⟩
 ·rintro⟨a,b⟩
  have d:s.seed.length=32:=by
   unfold fj at a;split at a
   ·assumption
   ·cases a
  exact⟨s,h,c,d,((eZ d).2).symm.trans b⟩
theorem Ib (aa v:Value)(t:List Nod)(own:List Sd)(K me:Nat)(w:World)(hu:NL w aa t)(hv:SL w v own)(hr:az t K)(ab:bd t (me:Int))(hs:srt own)(hl:own.length<=1000)(hw:∀ k,k<own.length->-9223372036854775808<=(aK own k).node/\(aK own k).node<=9223372036854775807)(ar:Tab w):
  Calls prog 16 #[aa,.int .i64 (me:Int),v] w λe w'=>aL e (bL t K (me:Int) own)/\Kp w w':=by
 obtain⟨z1,z2,z3⟩:=hr.small;have bm:=bY hr.le;have a1:=hr.le;have aV:=hr.len2;have F:=(hr.there_iff me).1 ab;have am:=az.lt_of (t:=t) (x:=2*me) (by rw[F];decide);have f:me<2 ^ K:=by omega
 have HT:=Lib.hid (λW (d:Kp w W)=>nA aa t K (me:Int) W (hu.kp d) hr);rw[IY ab] at HT;have bb:=Lib.hid (xM v own w hv);have C:=xL.2 hs;have bl:=Lib.hid (λW (d:Kp w W)=>sk v own W (aH.kp hv d) hs (by omega) hw);have bc:=Lib.hid (λW (d:Kp w W)=>xI aa t K me W (hu.kp d) hr f (ar.kp d));have U:=Lib.hid (Dm (own:=own) hr ab hs);have P:=Lib.hid (λj (h:j<(bI K me).length) hg=>Hx (t:=t) (own:=own) h hg);have Q:=Lib.hid (λj (h:j<(bI K me).length) hg=>Hy (t:=t) (own:=own) h hg);have al:=Lib.hid (λx s (h:s∈own) (A:s.node=((x:Nat):Int))=>Ia (t:=t) hs h A);have ak:Hid (∀ x:Nat,(∀ s∈own,s.node≠(x:Int))->¬fc t own x):=λx h ⟨s,h1,h2,_⟩=>h s h1 h2
 have aQ:Hid (∀ j,j<(bI K me).length->(bI K me).getD j 0<t.length):=λj hj=>by
  have hm:(bI K me).getD j 0∈bI K me:=by rw[Iw,Iy hj];exact Jg hj
  obtain⟨X,hX⟩:∃ X,(bI K me).getD j 0=X:=⟨_,rfl⟩;rw[hX] at hm ⊢;clear hX;unfold bI at hm;rcases Jy.1 hm with h|h
  ·rw[hr.len];exact ec f h
  ·rw[JR] at h;rw[h];exact am
 have aF:(bI K me).length=K+1:=by unfold bI;rw[IE,kZ];rfl
 have a9:Hid (aC K 0 me++[2*me]=bI K me):=rfl;have a7:Hid ((bI K me).take (bI K me).length=bI K me):=Jz;have aR:Hid (∀ j,j<(bI K me).length->(bI K me).take (j+1)=(bI K me).take j++[(bI K me).getD j 0]):=λj hj=>by
  rw[IP hj,Iw,Iy hj];rfl
 have aj:=Lib.hid (λl=>Hz t own l);have be:Hid ((aC K 0 me).length<=1000000):=by unfold Hid;rw[kZ];omega
 have i2:IntKind.i64.wrap (2*(me:Int))=((2*me:Nat):Int):=by rw[IA _ (by omega)];omega
 have HU:=Lib.hid hu;have bj:=Lib.hid (λW (d:Kp w W) (aa:Value) (seed:List UInt8) (x:Nat) (p q h:Value) (hs:Rd W aa seed) (hn:NIn W (ats t x) p q h)=>FM aa seed (ats t x) p q h W hs hn);have bi:=Lib.hid (λW (d:Kp w W) (x:Nat) (p q h:Value) (hn:NIn W (ats t x) p q h)=>FO (ats t x) (me:Int) p q h W hn);have bg:Hid (∀ x,rx t (me:Int) x↔((ats t x).kind≠0/\(me:Int)∉(ats t x).un)):=λx=>Iff.rfl
 obtain⟨a,c,rfl,p1,s1⟩:=hu.shape;obtain⟨av,cv,rfl,_,_⟩:=SE.shape hv;obtain⟨R,hR⟩:∃ R,bL t K (me:Int) own=R:=⟨_,rfl⟩;rw[hR] at U ⊢;obtain⟨G,hG⟩:∃ G,fc t own=G:=⟨_,rfl⟩;obtain⟨MT,af⟩:∃ M,jw t own=M:=⟨_,rfl⟩;obtain⟨MU,aP⟩:∃ M,rx t (me:Int)=M:=⟨_,rfl⟩;have V:Hid (R↔(∀ x∈bI K me,G x\/¬MU x)/\MT (bI K me)=own.length):=by
  unfold Hid;rw[<-hG,<-af,<-aP];exact U.out
 have aw:Hid (MT []=0):=by unfold Hid;rw[<-af];rfl
 simp only[hG,af,aP] at P Q al ak aj bg;clear U hR hG af aP;rw[aF] at P Q aQ a7 aR;generalize bI K me=u at *;generalize hM:K+1=M at *;generalize hN:t.length=N at *;generalize a0:own.length=OL at *;generalize aC K 0 me=PT at *;have bu:M<=11:=by omega
 have au:=Lib.hid aF;unfold maxLen at s1;clear hu hv hr ab hs hw ar bm a1 aV F am f z2 z3 aF hM hN a0;go_enter func16,ntmps16;go_wp2_with fail;refine(HT.out w (Kp.refl _)).mono ?_;rintro _ _ ⟨rfl,rfl⟩;go_wp2_with fail;refine bb.out.mono ?_;rintro _ w2 ⟨⟨b2,rfl,aZ⟩,k2⟩;obtain rfl:b2=true:=aZ.2 C;have K2:=Lib.hid k2;clear aZ bb C HT k2;go_wp2_with fail;refine(bl.out w2 K2.out).mono ?_;rintro _ w3 ⟨⟨rfl,aO⟩,k3⟩;have bs:=Lib.hid aO;have K3:=Lib.hid (K2.out.trans k3);have bz:Hid (w2.heap.size<w3.heap.size/\w.heap.size<=w2.heap.size):=⟨aO.lt,K2.out.size⟩;clear aO k3 bl;go_wp2_with fail;refine(bc.out w3 K3.out).mono ?_;rintro _ w4 ⟨⟨pv,rfl,o4⟩,k4⟩;obtain⟨a4,n4,c4,rfl⟩:=o4.rn.sl;have O4:=Lib.hid o4;have ba:Hid (w3.heap.size<=w4.heap.size):=k4.size;have K4:=Lib.hid (K3.out.trans k4);have a3:=Lib.hid k4;clear o4 k4 bc;go_wp2_with(at_builtin;go_loud (refine pV (o:=⟨some 30,_,_,_,_,_⟩) fV rfl _ _ rfl w3.heap.size _ PT rfl (O4.out.kp ((Kp.refl w4).alloc _)) _ (2*me) rfl (ON.lit1 w4 3 (2*me)) be.out (IU ba.out (by simp)) ?_;intro v5 w5 o5 g5;rw[a9.out] at o5;obtain⟨a5,c5,e5,p5,s5⟩:=o5.rn.shape;rw[au.out] at e5 p5;subst e5;have a2:Hid (Kp w3 w5):=Kp.grown (a3.out.alloc _) g5 (λk hk=>O4.out.own_ge k hk)))
 have br:=Lib.hid (bs.out.kp a2.out);have K5:=Lib.hid (K3.out.trans a2.out);have O5:=Lib.hid o5.rn;clear o5 g5 O4 K4 a3 a9 be ba;go_wp2_with fail;go_loopw[8,32] (λx8 aD wr=>∃ j:Nat,j<=M/\aD=.int .i64 (j:Int)/\x8=.int .i64 ((MT (u.take j):Nat):Int)/\(∀ x∈u.take j,G x\/¬MU x)/\Kp w5 wr) (λ_ aD _=>(M - (intOf aD).toNat))
 case atStart=>exact⟨0,IO _,rfl,by rw[Lq,aw.out];rfl,λx A=>by simp at A,Kp.refl _⟩
 case round=>
  obtain⟨j,hj,rfl,rfl,ao,aW⟩:=hrel;have y:=Lib.hid aW;have aB:=Lib.hid ao;clear ao aW;by_cases n:j<M
  ·obtain⟨gl,ol,rfl,_,aY⟩:=(O5.out.kp y.out).at j n
   have d0:=aY j n;have ag:=Lib.hid (aQ.out j n);have D:=P.out j n;have E:=Q.out j n;have aG:=aR.out j n;have aE:u.getD j 0∈u:=by rw[Iw,Iy (by rw[au.out];exact n)];exact Jg _
   have aU:=aj.out (u.take j);rw[Ja] at aU;obtain⟨X,hX⟩:∃ X,u.getD j 0=X:=⟨_,rfl⟩;rw[hX] at d0 ag D E aG aE;have Z:Hid ((G X\/¬MU X)->∀ x∈u.take (j+1),G x\/¬MU x):=λh x A=>by
    rw[aG] at A;rcases Jy.1 A with A|A
    ·exact aB.out x A
    ·rw[JR] at A;rw[A];exact h
   have a6:=Lib.hid aE;generalize MT (u.take j)=A0 at *;have bf:=Lib.hid D;have ax:=Lib.hid E;have bv:A0<=11:=by omega
   have i1:IntKind.i64.wrap ((j:Int)+1)=(j:Int)+1:=IA _ (by omega);have i6:IntKind.i64.wrap ((A0:Int)+1)=((A0+1:Nat):Int):=by rw[IA _ (by omega)];omega
   have i3:(j:Int)<(M:Int):=by omega
   have i5:(X:Int)<(N:Int):=by have:=ag.out;omega
   have an:Go.keyOf prog 3 (.int .i64 (X:Int))=some (.int .i64 (X:Int)):=keyOf_int_mk underlying3 (Ku (by omega));have bh:=Lib.hid (br.out.kp y.out);have zs:=jW wr;obtain⟨b,z,rfl,_,hc⟩:=HU.out.at X ag.out;obtain⟨p,q,h,hn⟩:=hc X ag.out;have g:=Lib.hid (λW (d:Kp w W)=>hn.kp d);have ai:Hid (∀ W,Kp w W->W.cell? ⟨b,z+X*5,none⟩=some (.int .i64 (ats t X).kind)/\W.cell? ⟨b,z+X*5+1,none⟩=some (.int .i64 (ats t X).name)/\W.cell? ⟨b,z+X*5+2,none⟩=some p/\W.cell? ⟨b,z+X*5+3,none⟩=some q/\W.cell? ⟨b,z+X*5+4,none⟩=some h):=
    λW d=>⟨(g.out W d).kind,(g.out W d).name,(g.out W d).pubC,(g.out W d).unC,(g.out W d).hashC⟩
   have T:=Lib.hid (λW (d:Kp wr W)=>bi.out W (K5.out.trans (y.out.trans d)) X p q h (g.out W (K5.out.trans (y.out.trans d))).2);obtain⟨ap,np,cp,rfl⟩:=aA hn.2.pub;obtain⟨aq,nq,cq,rfl⟩:=hn.2.un.sl;obtain⟨ah,nh,ch,rfl⟩:=aA hn.2.hash;have ay:=Lib.hid (λW (d:Kp wr W) (aa:Value) (seed:List UInt8) (hs:Rd W aa seed)=>bj.out W (K5.out.trans (y.out.trans d)) aa seed X _ _ _ hs (g.out W (K5.out.trans (y.out.trans d))).2);clear aY D E aG aE aU hX hn hc aR P Q aj aQ g bj bi;obtain⟨bx,L⟩:∃ k,(ats t X).kind=k:=⟨_,rfl⟩;obtain⟨bw,J⟩:∃ k,(ats t X).name=k:=⟨_,rfl⟩;have m:=Lib.hid (bg.out X);simp only[L,J] at ai T ay m;by_cases ad:∃ s∈own,s.node=(X:Int)
   ·obtain⟨⟨SN,SS⟩,aJ,aI⟩:=ad
    dsimp only at aI
    have aS:=Lib.hid (al.out X ⟨SN,SS⟩ aJ aI);subst aI;clear al ak L J;go_wp2_with(at_lookup;go_loud (refine vQ (e:=90) rfl _ _ 103 rfl fm underlying103 zs rfl bh.out ⟨(X:Int),SS⟩ aJ rfl an ?_;intro qs hq;obtain⟨a8,n8,c8,rfl⟩:=aA hq;dsimp only [sdV]))
    obtain⟨WQ,ae⟩:∃ x,wr.alloc (.cells #[.int .i64 (X:Int),.slice a8 n8 c8] 90)=x:=⟨_,rfl⟩;have KQ:Hid (Kp wr WQ):=by unfold Hid;rw[<-ae];exact(Kp.refl _).alloc _
    have bq:WQ.cell? ⟨wr.heap.size,1,none⟩=some (.slice a8 n8 c8):=by rw[<-ae];simp
    obtain⟨e0,e1,e2,e3,e4⟩:=ai.out WQ (K5.out.trans (y.out.trans KQ.out));have HQ:=Lib.hid hq;try rw[ae]
    clear ae hq zs d0 aJ;go_region_with (first
     | (go_at_call 46;refine(ay.out _ (by first|exact KQ.out|exact KQ.out.drew) _ SS (by first|exact HQ.out.kp KQ.out|exact HQ.out.kp KQ.out.drew)).mono ?_;rintro _ w9 ⟨⟨b9,rfl,bo⟩,k9⟩;have aT:=Lib.hid bo;have K9:Hid (Kp wr w9):=(show Kp wr _ from by first|exact KQ.out|exact KQ.out.drew).trans k9))
    all_goals (
     clear e0 e1 e2 e3 e4 bq;cases b9
     ·have O:Hid (¬G X):=λh=>by have:=aT.out.2 (aS.out.1 h);cases this
      obtain⟨wz,B⟩:∃ x:World,x=w9:=⟨_,rfl⟩;subst B;have KZ:=Lib.hid K9.out;obtain⟨e0,e1,e2,e3,e4⟩:=ai.out wz (K5.out.trans (y.out.trans KZ.out));go_wp2_with fail;refine(T.out wz KZ.out).mono ?_;rintro _ wy ⟨⟨b7,rfl,H⟩,k7⟩;have KY:=Lib.hid (y.out.trans (KZ.out.trans k7));have Y:=Lib.hid H;clear H k7;cases b7
      ·have aM:¬MU X:=λh=>by have:=Y.out.2 (m.out.1 h);cases this
       have r:=Lib.hid (Z.out (.inr aM));have f:=ax.out O.out;go_wp2_with fail;go_roundw
       case rel=>exact⟨j+1,by omega,by first|rfl|(rw[i1];rfl),by rw[f],r.out,KY.out⟩
       case measure=>simp[intOf];omega
      ·have HX:Hid (¬R):=λh=>by
        rcases (V.out.1 h).1 X a6.out with h1|h1
        ·exact O.out h1
        ·exact h1 (m.out.2 (Y.out.1 rfl))
       go_wp2_with fail;go_ret;exact⟨aL.no HX.out,K5.out.trans KY.out⟩
     ·have r:=Lib.hid (Z.out (.inl (aS.out.2 (aT.out.1 rfl))))
      have f:=bf.out (aS.out.2 (aT.out.1 rfl));go_wp2_with fail;go_roundw
      case rel=>exact⟨j+1,by omega,by first|rfl|(rw[i1];rfl),by first|(rw[f];done)|(rw[f];simp),r.out,y.out.trans K9.out⟩
      case measure=>simp[intOf];omega)
   ·have O:Hid (¬G X):=ak.out X λs h e=>ad ⟨s,h,e⟩
    have bn:∀ s∈own,s.node≠(X:Int):=λs h e=>ad ⟨s,h,e⟩
    clear al ak ad L J;go_wp2_with(at_lookup;go_loud (refine vR (e:=90) rfl _ _ 103 rfl fm underlying103 zs rfl bh.out (X:Int) bn rfl an ?_))
    refine wp_region_held_drew (S:=λW=>True) (by kernel_rfl) (trivial) (λbp=>?_);refine wpAnyH_take (i:=0) (oi:=⟨some 42,_,_,_,_,_⟩) (v:=?_) rfl (by kernel_rfl) (by kernel_rfl) (by kernel_rfl) (λ_ _ _ h=>h) (Or.inl ⟨by kernel_rfl,?_⟩) (by assumption) ?_;rotate_left;focus ((intro w I;(try dsimp only at I);go_simp);(try with_reducible rfl);done)
    simp only[Act.put,IT,Je,Jj];refine wpAnyH_take (i:=1) (oi:=⟨some 43,_,_,_,_,_⟩) (v:=?_) rfl (by kernel_rfl) (by kernel_rfl) (by kernel_rfl) (λ_ _ _ h=>h) (Or.inl ⟨by kernel_rfl,?_⟩) (by assumption) ?_;rotate_left;focus ((intro w I;(try dsimp only at I);go_simp);(try with_reducible rfl);done)
    simp only[Act.put,IT,Je,Jj];refine wpAnyH_take (i:=2) (oi:=⟨some 44,_,_,_,_,_⟩) (v:=undef) rfl (by kernel_rfl) (by kernel_rfl) (by kernel_rfl) (λ_ _ _ h=>h) (Mf ⟨by kernel_rfl,rfl⟩) (by assumption) ?_;simp only[Act.put,IT,Je,Jj];refine wpAnyH_take (i:=3) (oi:=⟨some 45,_,_,_,_,_⟩) (v:=undef) rfl (by kernel_rfl) (by kernel_rfl) (by kernel_rfl) (λ_ _ _ h=>h) (Mf ⟨by kernel_rfl,rfl⟩) (by assumption) ?_;simp only[Act.put,IT,Je,Jj];refine wpAnyH_take (i:=4) (oi:=⟨some 46,_,_,_,_,_⟩) (v:=undef) rfl (by kernel_rfl) (by kernel_rfl) (by kernel_rfl) (λ_ _ _ h=>h) (Mf ⟨by kernel_rfl,rfl⟩) (by assumption) ?_;simp only[Act.put,IT,Je,Jj];refine wpAnyH_take (i:=5) (oi:=⟨some 47,_,_,_,_,_⟩) (v:=undef) rfl (by kernel_rfl) (by kernel_rfl) (by kernel_rfl) (λ_ _ _ h=>h) (Mf ⟨by kernel_rfl,rfl⟩) (by assumption) ?_;simp only[Act.put,IT,Je,Jj];refine wpAnyH_take (i:=6) (oi:=⟨some 48,_,_,_,_,_⟩) (v:=undef) rfl (by kernel_rfl) (by kernel_rfl) (by kernel_rfl) (λ_ _ _ h=>h) (Mf ⟨by kernel_rfl,rfl⟩) (by assumption) ?_;simp only[Act.put,IT,Je,Jj];refine wpAnyH_take (i:=7) (oi:=⟨some 49,_,_,_,_,_⟩) (v:=undef) rfl (by kernel_rfl) (by kernel_rfl) (by kernel_rfl) (λ_ _ _ h=>h) (Mf ⟨by kernel_rfl,rfl⟩) (by assumption) ?_;simp only[Act.put,IT,Je,Jj];refine wpAnyH_take (i:=8) (oi:=⟨some 50,_,_,_,_,_⟩) (v:=undef) rfl (by kernel_rfl) (by kernel_rfl) (by kernel_rfl) (λ_ _ _ h=>h) (Mf ⟨by kernel_rfl,rfl⟩) (by assumption) ?_;simp only[Act.put,IT,Je,Jj];refine wpAnyH_take (i:=9) (oi:=⟨some 51,_,_,_,_,_⟩) (v:=?_) rfl (by kernel_rfl) (by kernel_rfl) (by kernel_rfl) (λ_ _ _ h=>h) (Or.inl ⟨by kernel_rfl,?_⟩) (by assumption) ?_;rotate_left;focus ((intro w I;(try dsimp only at I);go_simp);(try with_reducible rfl);done)
    simp only[Act.put,IT,Je,Jj];refine wpAnyH_done (by kernel_rfl) ?_ _;obtain⟨wz,B⟩:∃ x,(wr.alloc (.cells #[.int .i64 0,.slice none 0 0] 90)).drew=x:=⟨_,rfl⟩;have KZ:Hid (Kp wr wz):=by unfold Hid;rw[<-B];exact((Kp.refl _).alloc _).drew
    rw[B];clear B zs;obtain⟨e0,e1,e2,e3,e4⟩:=ai.out wz (K5.out.trans (y.out.trans KZ.out));go_wp2_with fail;refine(T.out wz KZ.out).mono ?_;rintro _ wy ⟨⟨b7,rfl,H⟩,k7⟩;have KY:=Lib.hid (y.out.trans (KZ.out.trans k7));have Y:=Lib.hid H;clear H k7;cases b7
    ·have aM:¬MU X:=λh=>by have:=Y.out.2 (m.out.1 h);cases this
     have r:=Lib.hid (Z.out (.inr aM));have f:=ax.out O.out;go_wp2_with fail;go_roundw
     case rel=>exact⟨j+1,by omega,by first|rfl|(rw[i1];rfl),by rw[f],r.out,KY.out⟩
     case measure=>simp[intOf];omega
    ·have HX:Hid (¬R):=λh=>by
      rcases (V.out.1 h).1 X a6.out with h1|h1
      ·exact O.out h1
      ·exact h1 (m.out.2 (Y.out.1 rfl))
     go_wp2_with fail;go_ret;exact⟨aL.no HX.out,K5.out.trans KY.out⟩
  ·obtain rfl:j=M:=by omega
   have h1:¬(j:Int)<(j:Int):=by omega
   have aN:=aB.out;rw[a7.out] at aN ⊢;have r:=Lib.hid aN;have aX:=V.out;have bk:Hid ((decide ((MT u:Nat)=OL))=true↔R):=by
    unfold Hid;rw[aX,decide_eq_true_iff];exact⟨λh=>⟨r.out,h⟩,λh=>h.2⟩
   have bt:(((MT u:Nat):Int)==(OL:Int))=decide ((MT u:Nat)=OL):=by
    by_cases e:MT u=OL
    ·rw[e,IY rfl];exact beq_self_eq_true _
    ·rw[IS e];exact ID.2 λh=>e (by omega)
   generalize MT u=A0 at *;clear aN aX aj P Q aw;go_wp2_with fail;go_ret;exact⟨⟨_,rfl,bk.out⟩,K5.out.trans y.out⟩
theorem yz (aa v:Value)(t:List Nod)(own:List Sd)(K:Nat)(me:Int)(w:World)(g:NL w aa t)(i:SL w v own)(l:az t K)(x:own.length<=1000)(p:∀ k,k<own.length->-9223372036854775808<=(aK own k).node/\(aK own k).node<=9223372036854775807)(f:Tab w):
  Calls prog 16 #[aa,.int .i64 me,v] w λe w'=>aL e (bL t K me own)/\Kp w w':=by
 by_cases b:bd t me
 ·obtain⟨k,rfl⟩:=IR b.1
  by_cases o:srt own
  ·exact Ib aa v t own K k w g i l b o x p f
  ·have j:=Lib.hid (λW (q:Kp w W)=>nA aa t K (k:Int) W (g.kp q) l)
   rw[IY b] at j;have n:=Lib.hid (xM v own w i);have d:¬lm own:=λh=>o (xL.1 h)
   have r:Hid (¬bL t K (k:Int) own):=λh=>o (Dn h)
   obtain⟨a,c,rfl,p1,u⟩:=g.shape;obtain⟨A,y,rfl,_,_⟩:=SE.shape i;generalize bL t K (k:Int) own=R at *;generalize own.length=B at *;generalize t.length=N at *;clear g i l b o p f;go_enter func16,ntmps16;go_wp2_with fail;refine(j.out w (Kp.refl _)).mono ?_;rintro _ _ ⟨rfl,rfl⟩;go_wp2_with fail;refine n.out.mono ?_;rintro _ w2 ⟨⟨z,rfl,m⟩,s⟩;have C:=Lib.hid s;cases z
   ·clear m n d j s
    go_wp2_with fail;go_ret;exact⟨aL.no r.out,C.out⟩
   ·exact absurd (m.1 rfl) d
 ·have j:=Lib.hid (λW (q:Kp w W)=>nA aa t K me W (g.kp q) l)
  rw[IS b] at j;have r:Hid (¬bL t K me own):=λh=>b h.1
  obtain⟨a,c,rfl,p1,u⟩:=g.shape;obtain⟨A,y,rfl,_,_⟩:=SE.shape i;generalize bL t K me own=R at *;generalize own.length=B at *;generalize t.length=N at *;clear g i l b p f;go_enter func16,ntmps16;go_wp2_with fail;refine(j.out w (Kp.refl _)).mono ?_;rintro _ _ ⟨rfl,rfl⟩;go_wp2_with fail;go_ret;exact⟨aL.no r.out,Kp.refl _⟩
