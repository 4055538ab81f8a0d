import Derived.Test.YthmhklmkgkfcpaaGreatDoorW28
set_option linter.all false
set_option maxHeartbeats 8000000
set_option maxRecDepth 100000
namespace Go.Proofs.YthmhklmkgkfcpaaGreatDoor
open Go.Proofs.Tryz Go.RowKit
variable {A B w:World}{Y:Nat->Prop}{j:Nat}{l:List Nat}{t:List Nod}
theorem GY:(prog.info? 90).map (·.size)=some 2:=by kernel_rfl
theorem sV {g:Nat}{T:TypeId}{l j:Value}(i:Bx w g T #[l,j])(b a:Value):
  Bx ((w.setCell ⟨g,0,none⟩ b).setCell ⟨g,1,none⟩ a) g T #[b,a]/\am (λk=>k=g) w ((w.setCell ⟨g,0,none⟩ b).setCell ⟨g,1,none⟩ a)/\∀ w0,Kp w0 w->w0.heap.size<=g->Kp w0 ((w.setCell ⟨g,0,none⟩ b).setCell ⟨g,1,none⟩ a):=by
 have c:=fF w g 0 [b,a] 0;exact⟨i.fill #[b,a] rfl,⟨c.os,c.tape,c.output,c.size,λq d f=>c.block q d λe=>f (by cases e;rfl)⟩,λw0 k h=>k.setCells h [b,a] 0⟩
theorem yM (x:Int)(q vs:Value)(c:List Int)(s:List UInt8)(w:World)(K:RI w q c)(z:Rd w vs s)(L:s.length<=2000):
  Calls prog 59 #[.agg #[.int .i64 x,q],vs] w λe w'=>(∃ v,e=.returned (.agg #[.int .i64 x,v])/\Rd w' v (br s dT)/\ba w.heap.size v)/\Kp w w':=by
 have Z:=Lib.hid (λW (U:Kp w W)=>yj vs ⟨#[110,111,100,101]⟩ s W (z.kp U) (by decide) L);obtain⟨D,u,B,rfl⟩:=K.sl;obtain⟨X,T,V,rfl⟩:=az z;clear K z L;go_enter func59,ntmps59;go_wp2_with fail;obtain⟨h,b⟩:∃ h,(w.alloc (.cells #[.int .i64 x,.slice D u B] 99)).alloc (.cells #[.int .i64 0,.slice none 0 0] 90)=h:=⟨_,rfl⟩;have A:Bx h w.heap.size 99 #[.int .i64 x,.slice D u B]:=by rw[<-b];exact(Bx.new w _ _).kp ((Kp.refl _).alloc _)
 have f:Hid (Bx h (w.heap.size+1) 90 #[.int .i64 0,.slice none 0 0]):=by
  unfold Hid;have:=Bx.new (w.alloc (.cells #[.int .i64 x,.slice D u B] 99)) 90 #[.int .i64 0,.slice none 0 0];rw[Jn] at this;rw[<-b];exact this
 have E:Hid (Kp w h):=by unfold Hid;rw[<-b];exact((Kp.refl _).alloc _).alloc _
 have o:Hid (w.heap.size+1<h.heap.size):=(IX.1 f.out).1;have HB:=Lib.hid A;have R:=A.cell 0;simp only[Jj,Jg,Jk] at R;rw[b];clear A b;go_region_with (first
  | (go_at_call 104;refine(Z.out _ (by first|exact E.out|exact E.out.drew)).mono ?_;rintro _ t ⟨⟨r9,rfl,r⟩,H⟩;have j:Hid (Kp h t):=(Kp.refl _).drew.trans H;obtain⟨m,a,l,rfl⟩:=az r.rd;have Y:Hid (Rd t (.slice m a l) (br s dT)):=r.rd;have S:Hid (ba h.heap.size (.slice m a l)):=(λg M=>(JP r g M).1);have Q:=(HB.out.kp j.out).cell 0;have i:=(f.out.kp j.out).there;have J:=(f.out.kp j.out).cell 0;have I:=(f.out.kp j.out).cell 1;have O:=(i 0 (by decide)).2;have N:=(i 1 (by decide)).2;clear i;rw[JS] at O N;simp only[Jj,Jg,Jk] at Q J I))
 all_goals (
  clear R Q J I O N r H;have d:=sV (f.out.kp j.out) (.int .i64 x) (.slice m a l);obtain⟨G,k⟩:∃ y,(t.setCell ⟨w.heap.size+1,0,none⟩ (.int .i64 x)).setCell ⟨w.heap.size+1,1,none⟩ (.slice m a l)=y:=⟨_,rfl⟩;rw[k] at d ⊢;have F:=Lib.hid d;have p:Hid (Rd G (.slice m a l) (br s dT)):=Y.out.stepF d.2.1 (cO (C:=h.heap.size) S.out λg M=>by have:=o.out;omega);have n:Hid (Kp w G):=d.2.2 w (E.out.trans j.out) (Mp _);clear d k;go_wp2_with fail;refine bodyPost_ret (results_cell_row (P:=prog) rfl _ _ (w.heap.size+1) _ _ (0,0) _ rfl F.out.1 underlying90 rfl GY) rfl ?_;exact⟨⟨_,rfl,p.out,S.out.mono (by have:=o.out;omega)⟩,n.out⟩)
section
open Go.Maps
theorem fO:Keyed prog 3:=int_keyed underlying3
theorem kN (w:World):(zeroValue 90).run prog w=.ok (.agg #[.int .i64 0,.slice none 0 0]) w:=by kernel_rfl
theorem Ha (n:Int)(w:World):(Instr.makeMap 103 (some (.int .i64 n))).run prog w=.ok (.map (some w.heap.size)) (w.alloc (.map #[] 0)):=by
 simp[Instr.makeMap,run_underlying underlying103,asInt,Result.andThen,newObj];rfl
theorem Hb {own:List Sd}(h:srt own)(b:j<own.length)(y:Sd):y∈own.take (j+1)↔(y=aO own j\/(y∈own.take j/\y.node≠(aO own j).node)):=by
 rw[Jp b,<-fl b,JV,Ko];have c:y∈own.take j->y.node<(aO own j).node:=λd=>by
  obtain⟨k,f,e⟩:=JW d;rw[Jv] at f;have:=JU.1 h k j (by omega) b (by omega);rw[LM] at e;rw[fl b,<-e];exact this
 constructor
 ·rintro (a|a)
  ·exact .inr ⟨a,λe=>by have:=c a;omega⟩
  ·exact .inl a
 ·rintro (a|a)
  ·exact .inr a
  ·exact .inl a.1
theorem sW (v:Value)(own:List Sd)(w:World)(E:SL w v own)(R:srt own)(hl:own.length<=100000)(Q:∀ k,k<own.length->-9223372036854775808<=(aO own k).node/\(aO own k).node<=9223372036854775807):
  Calls prog 44 #[v] w λe w'=>(e=.returned (.map (some w.heap.size))/\KM prog 3 w' w.heap.size own.length (λy=>y∈own))/\Kp w w':=by
 have F:=Ha;have U:=Lib.hid E;obtain⟨a,c,rfl,_,_⟩:=SE.shape E;have h:=Lib.hid (λj (hj:j<own.length) y=>Hb R hj y);have g:=Lib.hid Q;have p:Hid (own.take own.length=own):=JM;obtain⟨N,H⟩:∃ N,own.length=N:=⟨_,rfl⟩;have W:=Lib.hid H;rw[H] at U h g p hl ⊢;clear E R Q H;go_enter func44,ntmps44;go_wp2_with fail;obtain⟨D,f⟩:∃ D,w.alloc (.map #[] 0)=D:=⟨_,rfl⟩;have r:KM prog 3 D w.heap.size 0 (λy=>y∈own.take 0):=by
  rw[<-f];exact(KM.made w prog 3).congr λs=>by simp
 have u:Kp w D:=by rw[<-f];exact(Kp.refl _).alloc _
 rw[f];clear f F;have H0:=Lib.hid (Jb r u);clear r u;go_loopw[11] (λx wr=>∃ i:Nat,i<=N/\x=.int .i64 (i:Int)/\KM prog 3 wr w.heap.size i (λy=>y∈own.take i)/\Kp w wr) (λx _=>(N - (intOf x).toNat))
 case atStart=>exact⟨0,Jl _,rfl,H0.out⟩
 case round=>
  obtain⟨i,hi,rfl,A,b⟩:=hrel;have HR:=Lib.hid (Jb A b);by_cases o:i<N
  ·obtain⟨g1,o1,c1,q1,I,_,q⟩:=SL.nodeK (i:=i) U.out (by rw[W.out];exact o)
   rw[W.out] at I;simp only[Ji] at I;obtain⟨rfl,_,rfl⟩:=I;obtain⟨d0,d1,J⟩:=q wr b;obtain⟨C,z,B,rfl⟩:=az J;have X:=Lib.hid J;have V:=Lib.hid (h.out i o);obtain⟨P,O⟩:=g.out i o;have i1:IntKind.i64.wrap ((i:Int)+1)=(i:Int)+1:=IW _ (by omega);have i3:(i:Int)<(N:Int):=by omega
   generalize G:aO own i=SD at *;clear G;obtain⟨l,S⟩:=SD;dsimp only at d0 d1 X V P O
   have t:Go.keyOf prog 3 (.int .i64 l)=some (.int .i64 l):=keyOf_int_mk underlying3 (Ln (by omega));have hn:i<maxLen:=by unfold maxLen;omega
   have K:Hid (KM prog 3 (wr.alloc (.cells #[.int .i64 l,.slice C z B] 90)) w.heap.size i (λy=>y∈own.take i)):=A.kp ((Kp.refl _).alloc _);have L:Hid (gI (wr.alloc (.cells #[.int .i64 l,.slice C z B] 90)) (.agg #[.int .i64 l,.slice C z B]) ⟨l,S⟩):=⟨_,rfl,X.out.kp ((Kp.refl _).alloc _)⟩;have T:Hid (Kp w (wr.alloc (.cells #[.int .i64 l,.slice C z B] 90))):=b.alloc _;clear q b A J h g p P O;go_wp2_with(at_mapUpdate;go_loud (refine DN (e:=90) rfl _ _ _ 103 rfl fO underlying103 rfl K.out hn ⟨l,S⟩ _ rfl rfl t L.out ?_;intro Y n d))
   have m:KM prog 3 Y w.heap.size (i+1) (λy=>y∈own.take (i+1)):=n.congr λy=>V.out y
   go_roundw
   case rel=>exact⟨i+1,by omega,by first|rfl|(rw[i1];rfl),m,Below.grown T.out d T.out.size (λk hk=>by cases hk;exact Ja _)⟩
   case measure=>simp[intOf];omega
  ·obtain rfl:i=N:=by omega
   have aa:¬(i:Int)<(i:Int):=by omega
   clear A b h g;go_wp2_with fail;go_ret;obtain⟨M,Z⟩:=HR.out;rw[p.out] at M;exact⟨⟨rfl,M⟩,Z⟩
end
structure dV (w:World)(gc gs:Nat)(secret:List UInt8)(n:Nat):Prop where
 mk ::
 cnt:Bx w gc 3 #[.int .i64 (n:Int)]
 sec:∃ v,Bx w gs 24 #[v]/\RZ (λg=>g=gc) w v secret
 ne:gc≠gs
theorem dV.kp {w':World}{gc a n:Nat}{s:List UInt8}(h:dV w gc a s n)(k:Kp w w'):dV w' gc a s n:=by
 obtain⟨e,⟨v,d,c⟩,b⟩:=h;exact⟨e.kp k,⟨v,d.kp k,c.kp k⟩,b⟩
theorem Hj (gc i n:Nat)(secret:List UInt8)(w:World)(h:dV w gc i secret n)(P:n<1000000)(Q:secret.length<=2000):
  Calls prog 99 #[.pointer (some ⟨gc,0,none⟩),.pointer (some ⟨i,0,none⟩)] w λe w'=>(∃ v,e=.returned v/\Rd w' v (df secret n)/\ba w.heap.size v)/\dV w' gc i secret (n+1)/\am (λg=>g=gc) w w':=by
 obtain⟨o,⟨v,G,F⟩,k⟩:=h;have m:=Lib.hid (λW=>jY (n:Int) 4 W (by omega));rw[wW (by omega)] at m;have y:=Lib.hid (λW (M:Value) (Y:Rd W v secret) (o:Rd W M (be 4 n))=>pg v ⟨#[111,110,99,101]⟩ M secret (be 4 n) 32 W Y o (by decide) (by rw[bl];omega) Q (by omega));obtain⟨t,p,s,rfl⟩:=az F.1;have U:=Lib.hid o;have L:=Lib.hid G;have T:=Lib.hid F;have R:=o.cell 0;simp only[Jj,Jg] at R;have i1:IntKind.i64.wrap ((n:Int)+1)=((n+1:Nat):Int):=by rw[IW _ (by omega)];omega
 generalize gV (n:Int) 4=NE at *;have r:Hid (gc<w.heap.size/\i<w.heap.size):=⟨(IX.1 o).1,(IX.1 G).1⟩;clear o G F Q;go_enter func99,ntmps99;go_wp2_with fail;refine(m.out w).mono ?_;rintro _ z ⟨v1,rfl,E,f⟩;obtain⟨a1,X,c1,rfl⟩:=az E.rd;have S:=Lib.hid (Jb E f);have d:=U.out.kp f;have d0:=d.cell 0;have d1:=d.frozen 0;simp only[Jj,Jg] at d0;obtain⟨w2,c⟩:∃ x,z.setCell ⟨gc,0,none⟩ (.int .i64 ((n:Int)+1))=x:=⟨_,rfl⟩;have b:am (λg=>g=gc) z w2:=by rw[<-c];exact(am.refl _ _).setCell _ _ (.inr rfl)
 have l:=(L.out.kp f).cell 0;simp only[Jj,Jg] at l;have Z:(z.setCell ⟨gc,0,none⟩ (.int .i64 ((n:Int)+1))).cell? ⟨i,0,none⟩=some (.slice t p s):=by rw[c];exact b.cell l (λe=>k e.symm)
 have J:Hid (Bx w2 gc 3 #[.int .i64 ((n+1:Nat):Int)]):=by
  unfold Hid;rw[<-c,show((n+1:Nat):Int)=(n:Int)+1 by omega];exact d.set 0 (.int .i64 ((n:Int)+1))
 have K:Hid (Bx w2 i 24 #[.slice t p s]):=(b.block i (by have:=r.out;have:=f.size;omega) (λe=>k e.symm)).trans (L.out.kp f);have u:=Lib.hid ((T.out.kp f).step b);have a:=Lib.hid (Jb b f);have H:=Lib.hid c;have I:Hid (Rd w2 (.slice a1 X c1) (be 4 n)):=S.out.1.rd.stepF b (cO (C:=w.heap.size) (λg B=>(JP S.out.1 g B).1) λg B=>by have:=r.out;omega);clear E f m R b c l d L T U;go_wp2_with fail;rw[H.out];refine(y.out w2 _ u.out.1 I.out).mono ?_;rintro _ D ⟨⟨v3,rfl,A⟩,j⟩;obtain⟨a3,V,c3,rfl⟩:=az A.rd;have HF:Hid (((∃ v,Ending.returned (.slice a3 V c3)=.returned v/\Rd D v (df secret n)/\ba w.heap.size v)/\dV D gc i secret (n+1)/\am (λg=>g=gc) w D)):=
  ⟨⟨_,rfl,A.rd,λg B=>Js (Js a.out.2.size a.out.1.size) (JP A g B).1⟩,dV.kp ⟨J.out,⟨_,K.out,u.out⟩,k⟩ j,
   ⟨j.os.trans (a.out.1.os.trans a.out.2.os),j.tape.trans (a.out.1.tape.trans a.out.2.tape),j.output.trans (a.out.1.output.trans a.out.2.output),Js a.out.2.size (Js a.out.1.size j.size),λq O P=>by
    have N:q<z.heap.size:=Jh O a.out.2.size;exact(j.block q (Jh N a.out.1.size)).trans ((a.out.1.block q N P).trans (a.out.2.block q O))⟩⟩
 clear A j Z y;go_wp2_with fail;go_ret;exact HF.out
theorem Hk (v:Value)(secret:List UInt8)(w:World)(b:Rd w v secret):
  Calls prog 57 #[v] w λe w'=>(e=.returned (.func (.func 99) #[] #[.pointer (some ⟨w.heap.size+1,0,none⟩),.pointer (some ⟨w.heap.size,0,none⟩)])/\dV w' (w.heap.size+1) w.heap.size secret 0)/\Kp w w':=by
 have d:=Lib.hid b;obtain⟨a,n,c,rfl⟩:=az b;clear b;go_enter func57,ntmps57;go_wp2_with fail;go_ret;refine⟨⟨rfl,?_,⟨_,(Bx.new w _ _).kp ((Kp.refl _).alloc _),d.out.kp (((Kp.refl _).alloc _).alloc _),ks (w:=w) d.out.inside λg f=>by omega⟩,by omega⟩,((Kp.refl _).alloc _).alloc _⟩;have:=Bx.new (w.alloc (.cells #[.slice a n c] 24)) 3 #[.int .i64 0];rw[Jn] at this;exact this
theorem Ho (aa n s:Value)(t:List Nod)(K i:Nat)(x:Nat)(w0:World)(a:WIn w0 aa n s t K i)(k:x<t.length):
  ∃ p,Rd w0 p (ats t x).pub/\∀ W,Kp w0 W->Calls prog 103 #[.agg #[aa,.int .i64 (i:Int),n,s],.int .i64 (x:Int)] W λe w'=>e=.returned p/\Kp W w':=by
 obtain⟨G,u,rfl,p1,z⟩:=a.tree.shape;obtain⟨b,d,rfl,_,l⟩:=a.tree.at x k;obtain⟨p,q,h,c⟩:=l x k;obtain⟨w,o,v,rfl⟩:=a.nodes.sl;obtain⟨j,f,g,rfl⟩:=SE.sl a.steps;refine⟨p,c.2.pub,λW r=>?_⟩;have m:Hid (Kp W (W.alloc (.cells #[.slice (some ⟨b,d,none⟩) t.length u,.int .i64 (i:Int),.slice w o v,.slice j f g] 95))):=(Kp.refl _).alloc _;have F:=(c.kp (r.trans m.out)).pubC;obtain⟨H,A,E,rfl⟩:=az c.2.pub;have D:¬(x:Int)<0:=by omega
 have C:¬(t.length:Int)<=(x:Int):=by omega
 have B:(x:Int)<(t.length:Int):=by omega
 generalize (ats t x).pub=y at *;generalize t.length=N at *;clear a l c;go_enter func103,ntmps103;go_wp2_with fail;go_ret;exact⟨rfl,m.out⟩
theorem Kp.stepOld {w0:World}(h:Kp w0 A)(s:am Y A B)(b:∀ g,Y g->w0.heap.size<=g):Kp w0 B:=
 ⟨s.os.trans h.os,s.tape.trans h.tape,s.output.trans h.output,Js h.size s.size,λq a=>(s.block q (Jh a h.size) (λe=>by have:=b q e;omega)).trans (h.block q a)⟩
theorem am.next {C:World}(h:am Y A B)(s:am Y B C):am Y A C:=
 ⟨s.os.trans h.os,s.tape.trans h.tape,s.output.trans h.output,Js h.size s.size,λq a b=>(s.block q (Jh a h.size) b).trans (h.block q a b)⟩
theorem Hp (aa n s q vs vi:Value)(t:List Nod)(K i:Nat)(a:List Int)(x:Int)(b info secret:List UInt8)(m gc N:Nat)(w0 w:World)(h0:Kp w0 w)(hu:WIn w0 aa n s t K i)(hq:RI w0 q a)(hs:RZ (λg=>g=gc) w vs b)(hi:Rd w0 vi info)
  (ho:dV w gc N secret m) (aB:w0.heap.size<=gc) (M:∀ j,j<a.length->∃ y:Nat,a.getD j 0=(y:Int)/\y<t.length/\(ats t y).pub.length=32) (aP:a.length<=2048) (hm:m<=100000) (aR:secret.length=32) (L:b.length<=1600) (aA:info.length<=1400):
  Calls prog 58 #[.agg #[aa,.int .i64 (i:Int),n,s],.agg #[.int .i64 x,q],vs,vi,.func (.func 99) #[] #[.pointer (some ⟨gc,0,none⟩),.pointer (some ⟨N,0,none⟩)]] w λe w'=>
   (∃ v,e=.returned (.tuple #[v,.int .i64 0])/\GZ da 92 (λg=>g<w.heap.size) w' w.heap.size v (bM t secret info b m a))/\dV w' gc N secret (m+a.length)/\am (λg=>g=gc) w w':=by
 have z:=Lib.hid (λy (hy:y<t.length)=>Ho aa n s t K i y w0 hu hy);have aX:=Lib.hid (λW k (h:dV W gc N secret k) (hk:k<1000000)=>Hj gc N k secret W h hk (by omega));have aS:=Lib.hid (λW (hW:Kp w0 W) (vp vo:Value) (pub once:List UInt8) (hp:Rd W vp pub) (h:Rd W vo once) (aO:Rd W vs b)=>FC vp vo vi vs pub once info b W hp h (hi.kp hW) aO aA L);have aV:=Lib.hid hs;have ag:=Lib.hid (fun(pub:List UInt8) k (hp:pub.length=32)=>(pm (pub:=pub) (once:=df secret k) info b ⟨nE _ _ _,hp⟩).1);have G:=Lib.hid (λj (hj:j<a.length)=>wU (t:=t) (secret:=secret) (info:=info) (s:=b) (n:=m) (j:=j) (l:=a) hj);have H:Hid ((bM t secret info b m a).take a.length=bM t secret info b m a):=by unfold Hid;rw[<-lJ t secret info b a m,JM]
 have I:=Lib.hid M;have HQ:=Lib.hid hq;have aK:=Lib.hid aB;obtain⟨au,nu,cu,rfl⟩:=hu.tree.sl;obtain⟨an,nn,cn,rfl⟩:=hu.nodes.sl;obtain⟨ae,V,ad,rfl⟩:=SE.sl hu.steps;obtain⟨aq,cq,rfl,p1,s1⟩:=hq.shape;obtain⟨ah,nh,ch,rfl⟩:=az hs.1;obtain⟨ai,ni,ci,rfl⟩:=az hi;obtain⟨J,hJ⟩:∃ J,a.length=J:=⟨_,rfl⟩;rw[hJ] at G H I HQ p1 aP ⊢;have HO:=Lib.hid ho;have H0:=Lib.hid h0;have F:Hid (gc<w.heap.size):=(IX.1 ho.cnt).1;clear hu hq hs hi ho h0 M hJ aR aA L aB;go_enter func58,ntmps58;go_wp2_with fail;obtain⟨c,D⟩:∃ c,(w.alloc (.cells #[.slice au nu cu,.int .i64 (i:Int),.slice an nn cn,.slice ae V ad] 95)).alloc (.cells #[.int .i64 x,.slice aq J cq] 99)=c:=⟨_,rfl⟩;have HB:Hid (Bx c w.heap.size 95 #[.slice au nu cu,.int .i64 (i:Int),.slice an nn cn,.slice ae V ad]):=by unfold Hid;rw[<-D];exact(Bx.new w _ _).kp ((Kp.refl _).alloc _)
 have A:Hid (Kp w c):=by unfold Hid;rw[<-D];exact((Kp.refl _).alloc _).alloc _
 rw[D];clear D;go_loopw[12,21] (λaL Q wr=>∃ j:Nat,j<=J/\Q=.int .i64 (j:Int)/\GZ da 92 (λg=>g<c.heap.size) wr c.heap.size aL ((bM t secret info b m a).take j)/\dV wr gc N secret (m+j)/\am (λg=>g=gc) c wr) (λ_ Q _=>(J - (intOf Q).toNat))
 case atStart=>exact⟨0,Jl _,rfl,GZ.nil _ _ _,HO.out.kp A.out,am.refl _ _⟩
 case round=>
  obtain⟨j,hj,rfl,f,aw,ab⟩:=hrel;have B:=Lib.hid (Jb f (Jb aw ab));have KW:Hid (Kp w0 wr):=Kp.stepOld (H0.out.trans A.out) ab λg d=>by rw[d];exact aK.out
  obtain⟨ax,nx,cx,rfl⟩:=SE.sl f.gl;clear f aw ab;by_cases E:j<J
  ·obtain⟨gq,oq,rfl,_,aC⟩:=(HQ.out.kp KW.out).at j E
   have c0:=aC j E;obtain⟨y,X,aN,aM⟩:=I.out j E;rw[X] at c0;obtain⟨pv,rp,O⟩:=z.out y aN;have aW:=Lib.hid O;have RP:=Lib.hid rp;obtain⟨ap,np,cp,rfl⟩:=az rp;have a1:=Lib.hid (ag.out (ats t y).pub (m+j) aM);have aT:Hid ((bM t secret info b m a).take (j+1)=(bM t secret info b m a).take j++[⟨fI (ats t y).pub (df secret (m+j)),fJ (ats t y).pub (df secret (m+j)) info b⟩]):=by
    have:=G.out j E;unfold seS at this;rw[X,Jm] at this;exact this
   have i1:IntKind.i64.wrap ((j:Int)+1)=(j:Int)+1:=IW _ (by omega);have i3:(j:Int)<(J:Int):=by omega
   have hb:=HB.out;have r:Bx wr w.heap.size 95 #[.slice au nu cu,.int .i64 (i:Int),.slice an nn cn,.slice ae V ad]:=(B.out.2.2.block w.heap.size (IX.1 hb).1 (λe=>by have:=F.out;omega)).trans hb;have e0:=r.cell 0;have e1:=r.cell 1;have e2:=r.cell 2;have e3:=r.cell 3;simp only[Jj,Jg,Jk] at e0 e1 e2 e3;have aU:Hid (((bM t secret info b m a).take j).length+1<=1000000):=by unfold Hid;rw[Jv];omega
   generalize aQ:(bM t secret info b m a).take j=TK at *;generalize (ats t y).pub=af at *;clear aC X O rp aQ hb r z I ag G H;go_wp2_with fail;refine(aW.out wr KW.out).mono ?_;rintro _ wa ⟨rfl,ka⟩;have KA:=Lib.hid ka;clear ka;go_wp2_with(go_at_call 99;refine(aX.out wa (m+j) (B.out.2.1.kp KA.out) (by omega)).mono ?_;rintro _ T ⟨⟨a3,rfl,rb,nb⟩,ay,p⟩)
   obtain⟨a6,a4,a5,rfl⟩:=az rb;have aH:Hid (Kp w0 T):=Kp.stepOld (KW.out.trans KA.out) p λg d=>by rw[d];exact aK.out
   have aZ:Hid (GZ da 92 (λg=>g<c.heap.size) T c.heap.size (.slice ax nx cx) TK):=
    (B.out.1.kp KA.out).step (Y:=λg=>g=gc) p (λg d=>.inl (by have:=F.out;have:=A.out.size;omega)) (λg d e=>by have:=(B.out.1.lt g d).1;have:=F.out;have:=A.out.size;omega)
   have aI:Hid (am (λg=>g=gc) c T):=(B.out.2.2.next (am.of_kp KA.out)).next p;have aY:=Lib.hid ay;have u:Hid (c.heap.size<=wr.heap.size/\wr.heap.size<=T.heap.size):=⟨B.out.2.2.size,Js KA.out.size p.size⟩;have aJ:Hid (∀ g,(Value.slice ax nx cx).ownBlock=some g->g<wr.heap.size):=λg d=>(B.out.1.lt g d).2
   refine(aS.out T aH.out _ _ af (df secret (m+j)) (RP.out.kp aH.out) rb (aV.out.step ((am.of_kp A.out).next aI.out)).1).mono ?_;rintro _ wc ⟨⟨vh,vb,rfl,rh,U,nh,al⟩,kc⟩;rw[a1.out];obtain⟨aF,ak,aD,rfl⟩:=az rh;obtain⟨aG,ao,aE,rfl⟩:=az U;have a0:Hid (da.R (λg=>some g=(Value.slice ax nx cx).ownBlock\/g<c.heap.size) wc [.slice aF ak aD,.slice aG ao aE] ⟨fI af (df secret (m+j)),fJ af (df secret (m+j)) info b⟩):=
    ⟨_,_,rfl,⟨rh,cO (C:=T.heap.size) nh λg d=>d.elim (λh=>by have:=aJ.out g h.symm;have:=u.out;omega) λh=>by have:=u.out;omega⟩,
     ⟨U,cO (C:=T.heap.size) al λg d=>d.elim (λh=>by have:=aJ.out g h.symm;have:=u.out;omega) λh=>by have:=u.out;omega⟩⟩
   have aj:=Lib.hid (aZ.out.kp kc);have KC:=Lib.hid kc;have a2:Hid (c.heap.size<=wc.heap.size):=by have:=u.out;have:=kc.size;unfold Hid;omega
   clear rh U nh al kc rb nb ay p e0 e1 e2 e3 c0;go_wp2_with(at_builtin;refine fq (S:=da) (Z:=λg=>g<c.heap.size) (o:=⟨some 45,_,_,_,_,_⟩) seK rfl _ _ rfl c.heap.size _ TK rfl (aj.out.kp ((Kp.refl _).alloc _)) _ [_] rfl (SE.litZ (S:=da) 92 a0.out rfl) (by exact aU.out) (Js a2.out (by simp)) ?_;intro vF wh oh gh qh)
   rw[<-aT.out] at oh;have P:Hid (dV wh gc N secret (m+(j+1))/\am (λg=>g=gc) c wh):=by
    have av:am (λg=>g=gc) c wh:=((aI.out.next (am.of_kp KC.out)).next (am.of_kp ((Kp.refl _).alloc _))).then gh λg d=>.inl (aj.out.lt g d).1
    have ho:=(aY.out.kp KC.out).kp ((Kp.refl wc).alloc (.cells #[.slice aF ak aD,.slice aG ao aE] 92));have l1:gc<c.heap.size:=by have:=F.out;have:=A.out.size;omega
    obtain⟨_,⟨v,h2,h3⟩,h4⟩:=HO.out;have ar:am (λg=>g=gc) w wh:=(am.of_kp A.out).next av;exact⟨⟨ho.cnt.grown gh (λe=>by have:=(aj.out.lt _ e.symm).1;omega),⟨v,(ar.block N (IX.1 h2).1 (λe=>h4 e.symm)).trans h2,h3.step ar⟩,h4⟩,av⟩
   go_roundw
   case rel=>exact⟨j+1,by omega,by first|rfl|(rw[i1];rfl),oh,P.out.1,P.out.2⟩
   case measure=>simp[intOf];omega
  ·obtain rfl:j=J:=by omega
   have h1:¬(j:Int)<(j:Int):=by omega
   have f:=B.out.1;rw[H.out] at f;have HF:=Lib.hid (Jb ((f.solidly λg d=>.inr (.inl (show g<c.heap.size from Jh d A.out.size))).mono A.out.size) (Jb B.out.2.1 ((am.of_kp A.out).next B.out.2.2)));clear f z I ag G H;go_wp2_with fail;go_ret2;exact⟨⟨_,rfl,HF.out.1⟩,HF.out.2.1,HF.out.2.2⟩
section
open Go.Maps
open Classical in
noncomputable def jP (t:List Nod) (own:List Sd) (l:List Nat):Nat:=(l.filter λx=>decide (fy t own x)).length
theorem Iz {own:List Sd}(h:j<l.length)(b:fy t own (l.getD j 0)):jP t own (l.take (j+1))=jP t own (l.take j)+1:=by
 unfold jP;rw[IU,IV h] at b;have a:fy t own l[j]:=b;rw[Jp h,Mw,Jc,List.filter_cons,if_pos (by simpa using a)];rfl
theorem IA {own:List Sd}(h:j<l.length)(b:¬fy t own (l.getD j 0)):jP t own (l.take (j+1))=jP t own (l.take j):=by
 unfold jP;rw[IU,IV h] at b;have a:¬fy t own l[j]:=b;rw[Jp h,Mw,Jc,List.filter_cons,if_neg (by simpa using a)];rfl
theorem IB (t:List Nod)(own:List Sd)(l:List Nat):jP t own l<=l.length:=LZ _ _
theorem IC {own:List Sd}(k:srt own){x:Nat}{s:Sd}(h:s∈own)(c:s.node=(x:Int)):fy t own x↔(jm s.seed=0/\dE s.seed=(ats t x).pub):=by
 constructor
 ·rintro⟨e,j,i,g,f⟩
  obtain rfl:e=s:=wo k j h (i.trans c.symm);obtain⟨a,b⟩:=fk g;exact⟨a,b.trans f⟩
 ·rintro⟨a,b⟩
  have d:s.seed.length=32:=by
   unfold jm at a;split at a
   ·assumption
   ·cases a
  exact⟨s,h,c,d,((fk d).2).symm.trans b⟩
theorem ID (aa v:Value)(t:List Nod)(own:List Sd)(K me:Nat)(w:World)(hu:NL w aa t)(hv:SL w v own)(hr:aD t K)(ab:bf t (me:Int))(hs:srt own)(hl:own.length<=1000)(hw:∀ k,k<own.length->-9223372036854775808<=(aO own k).node/\(aO own k).node<=9223372036854775807)(ar:Tab w):
  Calls prog 16 #[aa,.int .i64 (me:Int),v] w λe w'=>aR e (er t K (me:Int) own)/\Kp w w':=by
 obtain⟨z1,z2,z3⟩:=hr.small;have bm:=bP hr.le;have a1:=hr.le;have aV:=hr.len2;have F:=(hr.there_iff me).1 ab;have am:=aD.lt_of (t:=t) (x:=2*me) (by rw[F];decide);have f:me<2 ^ K:=by omega
 have HT:=Lib.hid (λW (d:Kp w W)=>nZ aa t K (me:Int) W (hu.kp d) hr);rw[Jy ab] at HT;have bb:=Lib.hid (yl v own w hv);have C:=yk.2 hs;have bl:=Lib.hid (λW (d:Kp w W)=>sW v own W (aL.kp hv d) hs (by omega) hw);have bc:=Lib.hid (λW (d:Kp w W)=>yg aa t K me W (hu.kp d) hr f (ar.kp d));have U:=Lib.hid (Dt (own:=own) hr ab hs);have P:=Lib.hid (λj (h:j<(bN K me).length) hg=>Iz (t:=t) (own:=own) h hg);have Q:=Lib.hid (λj (h:j<(bN K me).length) hg=>IA (t:=t) (own:=own) h hg);have al:=Lib.hid (λx s (h:s∈own) (A:s.node=((x:Nat):Int))=>IC (t:=t) hs h A);have ak:Hid (∀ x:Nat,(∀ s∈own,s.node≠(x:Int))->¬fy t own x):=λx h ⟨s,h1,h2,_⟩=>h s h1 h2
 have aP:Hid (∀ j,j<(bN K me).length->(bN K me).getD j 0<t.length):=λj hj=>by
  have hm:(bN K me).getD j 0∈bN K me:=by rw[IU,IV hj];exact JD hj
  obtain⟨X,hX⟩:∃ X,(bN K me).getD j 0=X:=⟨_,rfl⟩;rw[hX] at hm ⊢;clear hX;unfold bN at hm;rcases JV.1 hm with h|h
  ·rw[hr.len];exact fd f h
  ·rw[Ko] at h;rw[h];exact am
 have aE:(bN K me).length=K+1:=by unfold bN;rw[Jc,od];rfl
 have a9:Hid (aK K 0 me++[2*me]=bN K me):=rfl;have a7:Hid ((bN K me).take (bN K me).length=bN K me):=JM;have aQ:Hid (∀ j,j<(bN K me).length->(bN K me).take (j+1)=(bN K me).take j++[(bN K me).getD j 0]):=λj hj=>by
  rw[Jp hj,IU,IV hj];rfl
 have aj:=Lib.hid (λl=>IB t own l);have bd:Hid ((aK K 0 me).length<=1000000):=by unfold Hid;rw[od];omega
 have i2:IntKind.i64.wrap (2*(me:Int))=((2*me:Nat):Int):=by rw[IW _ (by omega)];omega
 have HU:=Lib.hid hu;have bj:=Lib.hid (λW (d:Kp w W) (aa:Value) (seed:List UInt8) (x:Nat) (p q h:Value) (hs:Rd W aa seed) (hn:NIn W (ats t x) p q h)=>FM aa seed (ats t x) p q h W hs hn);have bi:=Lib.hid (λW (d:Kp w W) (x:Nat) (p q h:Value) (hn:NIn W (ats t x) p q h)=>FO (ats t x) (me:Int) p q h W hn);have bg:Hid (∀ x,rU t (me:Int) x↔((ats t x).kind≠0/\(me:Int)∉(ats t x).un)):=λx=>Iff.rfl
 obtain⟨a,c,rfl,p1,s1⟩:=hu.shape;obtain⟨av,cv,rfl,_,_⟩:=SE.shape hv;obtain⟨R,hR⟩:∃ R,er t K (me:Int) own=R:=⟨_,rfl⟩;rw[hR] at U ⊢;obtain⟨G,hG⟩:∃ G,fy t own=G:=⟨_,rfl⟩;obtain⟨MT,af⟩:∃ M,jP t own=M:=⟨_,rfl⟩;obtain⟨MU,aN⟩:∃ M,rU t (me:Int)=M:=⟨_,rfl⟩;have V:Hid (R↔(∀ x∈bN K me,G x\/¬MU x)/\MT (bN K me)=own.length):=by
  unfold Hid;rw[<-hG,<-af,<-aN];exact U.out
 have aw:Hid (MT []=0):=by unfold Hid;rw[<-af];rfl
 simp only[hG,af,aN] at P Q al ak aj bg;clear U hR hG af aN;rw[aE] at P Q aP a7 aQ;generalize bN K me=u at *;generalize hM:K+1=M at *;generalize hN:t.length=N at *;generalize a0:own.length=OL at *;generalize aK K 0 me=PT at *;have bu:M<=11:=by omega
 have au:=Lib.hid aE;unfold maxLen at s1;clear hu hv hr ab hs hw ar bm a1 aV F am f z2 z3 aE hM hN a0;go_enter func16,ntmps16;go_wp2_with fail;refine(HT.out w (Kp.refl _)).mono ?_;rintro _ _ ⟨rfl,rfl⟩;go_wp2_with fail;refine bb.out.mono ?_;rintro _ w2 ⟨⟨b2,rfl,aZ⟩,k2⟩;obtain rfl:b2=true:=aZ.2 C;have K2:=Lib.hid k2;clear aZ bb C HT k2;go_wp2_with fail;refine(bl.out w2 K2.out).mono ?_;rintro _ w3 ⟨⟨rfl,aM⟩,k3⟩;have bs:=Lib.hid aM;have K3:=Lib.hid (K2.out.trans k3);have bz:Hid (w2.heap.size<w3.heap.size/\w.heap.size<=w2.heap.size):=⟨aM.lt,K2.out.size⟩;clear aM k3 bl;go_wp2_with fail;refine(bc.out w3 K3.out).mono ?_;rintro _ w4 ⟨⟨pv,rfl,o4⟩,k4⟩;obtain⟨a4,n4,c4,rfl⟩:=o4.rn.sl;have O4:=Lib.hid o4;have ba:Hid (w3.heap.size<=w4.heap.size):=k4.size;have K4:=Lib.hid (K3.out.trans k4);have a3:=Lib.hid k4;clear o4 k4 bc;go_wp2_with(at_builtin;go_loud (refine qA (o:=⟨some 30,_,_,_,_,_⟩) fX rfl _ _ rfl w3.heap.size _ PT rfl (O4.out.kp ((Kp.refl w4).alloc _)) _ (2*me) rfl (ON.lit1 w4 3 (2*me)) bd.out (Js ba.out (by simp)) ?_;intro v5 w5 o5 g5;rw[a9.out] at o5;obtain⟨a5,c5,e5,p5,s5⟩:=o5.rn.shape;rw[au.out] at e5 p5;subst e5;have a2:Hid (Kp w3 w5):=Kp.grown (a3.out.alloc _) g5 (λk hk=>O4.out.own_ge k hk)))
 have br:=Lib.hid (bs.out.kp a2.out);have K5:=Lib.hid (K3.out.trans a2.out);have O5:=Lib.hid o5.rn;clear o5 g5 O4 K4 a3 a9 bd ba;go_wp2_with fail;go_loopw[8,32] (λx8 aB wr=>∃ j:Nat,j<=M/\aB=.int .i64 (j:Int)/\x8=.int .i64 ((MT (u.take j):Nat):Int)/\(∀ x∈u.take j,G x\/¬MU x)/\Kp w5 wr) (λ_ aB _=>(M - (intOf aB).toNat))
 case atStart=>exact⟨0,Jl _,rfl,by rw[Lq,aw.out];rfl,λx A=>by simp at A,Kp.refl _⟩
 case round=>
  obtain⟨j,hj,rfl,rfl,ao,aW⟩:=hrel;have y:=Lib.hid aW;have aA:=Lib.hid ao;clear ao aW;by_cases n:j<M
  ·obtain⟨gl,ol,rfl,_,aY⟩:=(O5.out.kp y.out).at j n
   have d0:=aY j n;have ag:=Lib.hid (aP.out j n);have D:=P.out j n;have E:=Q.out j n;have aF:=aQ.out j n;have aC:u.getD j 0∈u:=by rw[IU,IV (by rw[au.out];exact n)];exact JD _
   have aU:=aj.out (u.take j);rw[Jv] at aU;obtain⟨X,hX⟩:∃ X,u.getD j 0=X:=⟨_,rfl⟩;rw[hX] at d0 ag D E aF aC;have Z:Hid ((G X\/¬MU X)->∀ x∈u.take (j+1),G x\/¬MU x):=λh x A=>by
    rw[aF] at A;rcases JV.1 A with A|A
    ·exact aA.out x A
    ·rw[Ko] at A;rw[A];exact h
   have a6:=Lib.hid aC;generalize MT (u.take j)=A0 at *;have be:=Lib.hid D;have ax:=Lib.hid E;have bv:A0<=11:=by omega
   have i1:IntKind.i64.wrap ((j:Int)+1)=(j:Int)+1:=IW _ (by omega);have i6:IntKind.i64.wrap ((A0:Int)+1)=((A0+1:Nat):Int):=by rw[IW _ (by omega)];omega
   have i3:(j:Int)<(M:Int):=by omega
   have i5:(X:Int)<(N:Int):=by have:=ag.out;omega
   have an:Go.keyOf prog 3 (.int .i64 (X:Int))=some (.int .i64 (X:Int)):=keyOf_int_mk underlying3 (Ln (by omega));have bh:=Lib.hid (br.out.kp y.out);have zs:=kN wr;obtain⟨b,z,rfl,_,hc⟩:=HU.out.at X ag.out;obtain⟨p,q,h,hn⟩:=hc X ag.out;have g:=Lib.hid (λW (d:Kp w W)=>hn.kp d);have ai:Hid (∀ W,Kp w W->W.cell? ⟨b,z+X*5,none⟩=some (.int .i64 (ats t X).kind)/\W.cell? ⟨b,z+X*5+1,none⟩=some (.int .i64 (ats t X).name)/\W.cell? ⟨b,z+X*5+2,none⟩=some p/\W.cell? ⟨b,z+X*5+3,none⟩=some q/\W.cell? ⟨b,z+X*5+4,none⟩=some h):=
    λW d=>⟨(g.out W d).kind,(g.out W d).name,(g.out W d).pubC,(g.out W d).unC,(g.out W d).hashC⟩
   have T:=Lib.hid (λW (d:Kp wr W)=>bi.out W (K5.out.trans (y.out.trans d)) X p q h (g.out W (K5.out.trans (y.out.trans d))).2);obtain⟨ap,np,cp,rfl⟩:=az hn.2.pub;obtain⟨aq,nq,cq,rfl⟩:=hn.2.un.sl;obtain⟨ah,nh,ch,rfl⟩:=az hn.2.hash;have ay:=Lib.hid (λW (d:Kp wr W) (aa:Value) (seed:List UInt8) (hs:Rd W aa seed)=>bj.out W (K5.out.trans (y.out.trans d)) aa seed X _ _ _ hs (g.out W (K5.out.trans (y.out.trans d))).2);clear aY D E aF aC aU hX hn hc aQ P Q aj aP g bj bi;obtain⟨bx,L⟩:∃ k,(ats t X).kind=k:=⟨_,rfl⟩;obtain⟨bw,J⟩:∃ k,(ats t X).name=k:=⟨_,rfl⟩;have m:=Lib.hid (bg.out X);simp only[L,J] at ai T ay m;by_cases ad:∃ s∈own,s.node=(X:Int)
   ·obtain⟨⟨SN,SS⟩,aH,aG⟩:=ad
    dsimp only at aG
    have aS:=Lib.hid (al.out X ⟨SN,SS⟩ aH aG);subst aG;clear al ak L J;go_wp2_with(at_lookup;go_loud (refine wX (e:=90) rfl _ _ 103 rfl fO underlying103 zs rfl bh.out ⟨(X:Int),SS⟩ aH rfl an ?_;intro qs hq;obtain⟨a8,n8,c8,rfl⟩:=az hq;dsimp only [sdV]))
    obtain⟨WQ,ae⟩:∃ x,wr.alloc (.cells #[.int .i64 (X:Int),.slice a8 n8 c8] 90)=x:=⟨_,rfl⟩;have KQ:Hid (Kp wr WQ):=by unfold Hid;rw[<-ae];exact(Kp.refl _).alloc _
    have bq:WQ.cell? ⟨wr.heap.size,1,none⟩=some (.slice a8 n8 c8):=by rw[<-ae];simp
    obtain⟨e0,e1,e2,e3,e4⟩:=ai.out WQ (K5.out.trans (y.out.trans KQ.out));have HQ:=Lib.hid hq;try rw[ae]
    clear ae hq zs d0 aH;go_region_with (first
     | (go_at_call 46;refine(ay.out _ (by first|exact KQ.out|exact KQ.out.drew) _ SS (by first|exact HQ.out.kp KQ.out|exact HQ.out.kp KQ.out.drew)).mono ?_;rintro _ w9 ⟨⟨b9,rfl,bo⟩,k9⟩;have aT:=Lib.hid bo;have K9:Hid (Kp wr w9):=(show Kp wr _ from by first|exact KQ.out|exact KQ.out.drew).trans k9))
    all_goals (
     clear e0 e1 e2 e3 e4 bq;cases b9
     ·have O:Hid (¬G X):=λh=>by have:=aT.out.2 (aS.out.1 h);cases this
      obtain⟨wz,B⟩:∃ x:World,x=w9:=⟨_,rfl⟩;subst B;have KZ:=Lib.hid K9.out;obtain⟨e0,e1,e2,e3,e4⟩:=ai.out wz (K5.out.trans (y.out.trans KZ.out));go_wp2_with fail;refine(T.out wz KZ.out).mono ?_;rintro _ wy ⟨⟨b7,rfl,H⟩,k7⟩;have KY:=Lib.hid (y.out.trans (KZ.out.trans k7));have Y:=Lib.hid H;clear H k7;cases b7
      ·have aI:¬MU X:=λh=>by have:=Y.out.2 (m.out.1 h);cases this
       have r:=Lib.hid (Z.out (.inr aI));have f:=ax.out O.out;go_wp2_with fail;go_roundw
       case rel=>exact⟨j+1,by omega,by first|rfl|(rw[i1];rfl),by rw[f],r.out,KY.out⟩
       case measure=>simp[intOf];omega
      ·have HX:Hid (¬R):=λh=>by
        rcases (V.out.1 h).1 X a6.out with h1|h1
        ·exact O.out h1
        ·exact h1 (m.out.2 (Y.out.1 rfl))
       go_wp2_with fail;go_ret;exact⟨aR.no HX.out,K5.out.trans KY.out⟩
     ·have r:=Lib.hid (Z.out (.inl (aS.out.2 (aT.out.1 rfl))))
      have f:=be.out (aS.out.2 (aT.out.1 rfl));go_wp2_with fail;go_roundw
      case rel=>exact⟨j+1,by omega,by first|rfl|(rw[i1];rfl),by first|(rw[f];done)|(rw[f];simp),r.out,y.out.trans K9.out⟩
      case measure=>simp[intOf];omega)
   ·have O:Hid (¬G X):=ak.out X λs h e=>ad ⟨s,h,e⟩
    have bn:∀ s∈own,s.node≠(X:Int):=λs h e=>ad ⟨s,h,e⟩
    clear al ak ad L J;go_wp2_with(at_lookup;go_loud (refine wY (e:=90) rfl _ _ 103 rfl fO underlying103 zs rfl bh.out (X:Int) bn rfl an ?_))
    refine wp_region_held_drew (S:=λW=>True) (by kernel_rfl) (trivial) (λbp=>?_);refine wpAnyH_take (i:=0) (oi:=⟨some 42,_,_,_,_,_⟩) (v:=?_) rfl (by kernel_rfl) (by kernel_rfl) (by kernel_rfl) (λ_ _ _ h=>h) (Lp ⟨by kernel_rfl,?_⟩) (by assumption) ?_;rotate_left;focus ((intro w I;(try dsimp only at I);go_simp);(try with_reducible rfl);done)
    simp only[Act.put,IY,Je,Jf];refine wpAnyH_take (i:=1) (oi:=⟨some 43,_,_,_,_,_⟩) (v:=?_) rfl (by kernel_rfl) (by kernel_rfl) (by kernel_rfl) (λ_ _ _ h=>h) (Lp ⟨by kernel_rfl,?_⟩) (by assumption) ?_;rotate_left;focus ((intro w I;(try dsimp only at I);go_simp);(try with_reducible rfl);done)
    simp only[Act.put,IY,Je,Jf];refine wpAnyH_take (i:=2) (oi:=⟨some 44,_,_,_,_,_⟩) (v:=undef) rfl (by kernel_rfl) (by kernel_rfl) (by kernel_rfl) (λ_ _ _ h=>h) (Lc ⟨by kernel_rfl,rfl⟩) (by assumption) ?_;simp only[Act.put,IY,Je,Jf];refine wpAnyH_take (i:=3) (oi:=⟨some 45,_,_,_,_,_⟩) (v:=undef) rfl (by kernel_rfl) (by kernel_rfl) (by kernel_rfl) (λ_ _ _ h=>h) (Lc ⟨by kernel_rfl,rfl⟩) (by assumption) ?_;simp only[Act.put,IY,Je,Jf];refine wpAnyH_take (i:=4) (oi:=⟨some 46,_,_,_,_,_⟩) (v:=undef) rfl (by kernel_rfl) (by kernel_rfl) (by kernel_rfl) (λ_ _ _ h=>h) (Lc ⟨by kernel_rfl,rfl⟩) (by assumption) ?_;simp only[Act.put,IY,Je,Jf];refine wpAnyH_take (i:=5) (oi:=⟨some 47,_,_,_,_,_⟩) (v:=undef) rfl (by kernel_rfl) (by kernel_rfl) (by kernel_rfl) (λ_ _ _ h=>h) (Lc ⟨by kernel_rfl,rfl⟩) (by assumption) ?_;simp only[Act.put,IY,Je,Jf];refine wpAnyH_take (i:=6) (oi:=⟨some 48,_,_,_,_,_⟩) (v:=undef) rfl (by kernel_rfl) (by kernel_rfl) (by kernel_rfl) (λ_ _ _ h=>h) (Lc ⟨by kernel_rfl,rfl⟩) (by assumption) ?_;simp only[Act.put,IY,Je,Jf];refine wpAnyH_take (i:=7) (oi:=⟨some 49,_,_,_,_,_⟩) (v:=undef) rfl (by kernel_rfl) (by kernel_rfl) (by kernel_rfl) (λ_ _ _ h=>h) (Lc ⟨by kernel_rfl,rfl⟩) (by assumption) ?_;simp only[Act.put,IY,Je,Jf];refine wpAnyH_take (i:=8) (oi:=⟨some 50,_,_,_,_,_⟩) (v:=undef) rfl (by kernel_rfl) (by kernel_rfl) (by kernel_rfl) (λ_ _ _ h=>h) (Lc ⟨by kernel_rfl,rfl⟩) (by assumption) ?_;simp only[Act.put,IY,Je,Jf];refine wpAnyH_take (i:=9) (oi:=⟨some 51,_,_,_,_,_⟩) (v:=?_) rfl (by kernel_rfl) (by kernel_rfl) (by kernel_rfl) (λ_ _ _ h=>h) (Lp ⟨by kernel_rfl,?_⟩) (by assumption) ?_;rotate_left;focus ((intro w I;(try dsimp only at I);go_simp);(try with_reducible rfl);done)
    simp only[Act.put,IY,Je,Jf];refine wpAnyH_done (by kernel_rfl) ?_ _;obtain⟨wz,B⟩:∃ x,(wr.alloc (.cells #[.int .i64 0,.slice none 0 0] 90)).drew=x:=⟨_,rfl⟩;have KZ:Hid (Kp wr wz):=by unfold Hid;rw[<-B];exact((Kp.refl _).alloc _).drew
    rw[B];clear B zs;obtain⟨e0,e1,e2,e3,e4⟩:=ai.out wz (K5.out.trans (y.out.trans KZ.out));go_wp2_with fail;refine(T.out wz KZ.out).mono ?_;rintro _ wy ⟨⟨b7,rfl,H⟩,k7⟩;have KY:=Lib.hid (y.out.trans (KZ.out.trans k7));have Y:=Lib.hid H;clear H k7;cases b7
    ·have aI:¬MU X:=λh=>by have:=Y.out.2 (m.out.1 h);cases this
     have r:=Lib.hid (Z.out (.inr aI));have f:=ax.out O.out;go_wp2_with fail;go_roundw
     case rel=>exact⟨j+1,by omega,by first|rfl|(rw[i1];rfl),by rw[f],r.out,KY.out⟩
     case measure=>simp[intOf];omega
    ·have HX:Hid (¬R):=λh=>by
      rcases (V.out.1 h).1 X a6.out with h1|h1
      ·exact O.out h1
      ·exact h1 (m.out.2 (Y.out.1 rfl))
     go_wp2_with fail;go_ret;exact⟨aR.no HX.out,K5.out.trans KY.out⟩
  ·obtain rfl:j=M:=by omega
   have h1:¬(j:Int)<(j:Int):=by omega
   have aJ:=aA.out;rw[a7.out] at aJ ⊢;have r:=Lib.hid aJ;have aX:=V.out;have bk:Hid ((decide ((MT u:Nat)=OL))=true↔R):=by
    unfold Hid;rw[aX,decide_eq_true_iff];exact⟨λh=>⟨r.out,h⟩,λh=>h.2⟩
   have bt:(((MT u:Nat):Int)==(OL:Int))=decide ((MT u:Nat)=OL):=by
    by_cases e:MT u=OL
    ·rw[e,Jy rfl];exact beq_self_eq_true _
    ·rw[Jr e];exact Jd.2 λh=>e (by omega)
   generalize MT u=A0 at *;clear aJ aX aj P Q aw;go_wp2_with fail;go_ret;exact⟨⟨_,rfl,bk.out⟩,K5.out.trans y.out⟩
theorem zf (aa v:Value)(t:List Nod)(own:List Sd)(K:Nat)(me:Int)(w:World)(g:NL w aa t)(i:SL w v own)(l:aD t K)(x:own.length<=1000)(p:∀ k,k<own.length->-9223372036854775808<=(aO own k).node/\(aO own k).node<=9223372036854775807)(f:Tab w):
  Calls prog 16 #[aa,.int .i64 me,v] w λe w'=>aR e (er t K me own)/\Kp w w':=by
 by_cases b:bf t me
 ·obtain⟨k,rfl⟩:=Jq b.1
  by_cases o:srt own
  ·exact ID aa v t own K k w g i l b o x p f
  ·have j:=Lib.hid (λW (q:Kp w W)=>nZ aa t K (k:Int) W (g.kp q) l)
   rw[Jy b] at j;have n:=Lib.hid (yl v own w i);have d:¬lW own:=λh=>o (yk.1 h)
   have r:Hid (¬er t K (k:Int) own):=λh=>o (Du h)
   obtain⟨a,c,rfl,p1,u⟩:=g.shape;obtain⟨A,y,rfl,_,_⟩:=SE.shape i;generalize er t K (k:Int) own=R at *;generalize own.length=B at *;generalize t.length=N at *;clear g i l b o p f;go_enter func16,ntmps16;go_wp2_with fail;refine(j.out w (Kp.refl _)).mono ?_;rintro _ _ ⟨rfl,rfl⟩;go_wp2_with fail;refine n.out.mono ?_;rintro _ w2 ⟨⟨z,rfl,m⟩,s⟩;have C:=Lib.hid s;cases z
   ·clear m n d j s
    go_wp2_with fail;go_ret;exact⟨aR.no r.out,C.out⟩
   ·exact absurd (m.1 rfl) d
 ·have j:=Lib.hid (λW (q:Kp w W)=>nZ aa t K me W (g.kp q) l)
  rw[Jr b] at j;have r:Hid (¬er t K me own):=λh=>b h.1
  obtain⟨a,c,rfl,p1,u⟩:=g.shape;obtain⟨A,y,rfl,_,_⟩:=SE.shape i;generalize er t K me own=R at *;generalize own.length=B at *;generalize t.length=N at *;clear g i l b p f;go_enter func16,ntmps16;go_wp2_with fail;refine(j.out w (Kp.refl _)).mono ?_;rintro _ _ ⟨rfl,rfl⟩;go_wp2_with fail;go_ret;exact⟨aR.no r.out,Kp.refl _⟩
