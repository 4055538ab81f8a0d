import Derived.Test.YthmhklmkgkfcpaaGreatDoorW4
import Derived.Deep.WholeRow
set_option linter.all false
set_option maxHeartbeats 8000000
set_option maxRecDepth 100000
namespace Go.Proofs.YthmhklmkgkfcpaaGreatDoor
open Go.Proofs.Tryz Go.RowKit
variable {B g n:Nat}{Q:Exit->Act->World->Prop}{T c e:TypeId}{a:Act}{b:Array Oper}{l:List Bool}{o:Oper}{v:Value}{w:World}
section
open Go.Shelf
attribute [local go_sem] Oper.semAt_some
def Br (T:TypeId)(w:World)(g:Nat)(l:List Bool):Prop:=w.heap[g]?=some (.cells (l.map Value.bool).toArray T (0,0))
theorem Br.lt (h:Br T w g l):g<w.heap.size:=(IX.1 h).1
theorem Br.cell (h:Br T w g l)(i:Nat)(a:i<l.length):w.cell? ⟨g,i,none⟩=some (.bool (l.getD i false)):=by
 rw[cell_of_row w g i _ T _ h];simp[a]
theorem Br.frozen (h:Br T w g l)(i:Nat):w.frozen? ⟨g,i,none⟩=false:=by
 have a:=h;unfold Br at a;simp[World.frozen?,a]
theorem Br.set (h:Br T w g l)(i:Nat)(x:Bool):Br T (w.setCell ⟨g,i,none⟩ (.bool x)) g (l.set i x):=by
 have c:=h;unfold Br at c ⊢;obtain⟨a,b⟩:=IX.1 c;simp[World.setCell,a,Lu,b,List.map_set]
theorem Br.new (T:TypeId)(w:World)(cs:Array Value)(l:List Bool)(h:cs=(l.map Value.bool).toArray):Br T (w.alloc (.cells cs T)) w.heap.size l:=by
 subst h;exact heap_alloc_new w _
theorem AP (m:Nat)(z:1<=m)(X:Nat->Prop)(w:World)(hX:∀ k,X k->k<w.heap.size):
  qt Fence.wide m prog 264 #[] (λi=>#[.int .u64 (iC i)]) 64 X w:=by
 intro l J W hb af ae hJ hY h0;have HJ:=Lib.hid hJ;have HY:=Lib.hid hY;have HX:=Lib.hid hX;clear hJ hY hX;refine callsIn_of_wp func264 rfl trivial ?_ rfl;simp only[ntmps264,Ka,Kj,Kb,Jo,Jt,Nat.reduceAdd,Nat.reduceSub,JX,JY,Kg,JR,Kc];gi_wp2
 have E:Br 292 (W.alloc (.cells (List.replicate 312 (Value.bool false)).toArray 292)) W.heap.size (cN 2).D:=Br.new _ _ _ _ rfl;gi_loopw [3] (λp wr=>∃ q:Nat,2<=q/\q<=312/\p=.int .u64 q/\Br 292 wr W.heap.size (cN q).D/\J (cN q).ps.length wr) (λp _=>312 - (intOf p).toNat)
 case atStart=>exact⟨2,by omega,by omega,rfl,E,HJ.out _ _ _ h0 ((Below.refl _ W).alloc (Ja _) _)⟩
 case round=>
  clear E;obtain⟨q,y,P,rfl,F,c⟩:=hrel;by_cases R:q<312
  ·have b:=oP q
   have I:=F.cell q (by omega);have ad:(q:Int)<312:=by omega
   rcases hdv:(cN q).D.getD q false with _|_
   ·have a:=(AK ⟨q,R⟩).resolve_left (by rw[hdv];decide)
    have Q:=a.resolve_left (by simp;omega);obtain⟨H,o⟩:=Q;simp only at H o;obtain⟨fn,tmps,N,ab,hy,hR⟩:=HY.out (cN q).ps.length wr o c;rw[H] at hy;have HT:=Lib.hid (AM q hdv y);have HP:=Lib.hid H;rw[hdv] at I;have HD:=Lib.hid hdv;have HL:=Lib.hid b;clear hdv H a o b;gi_wp2
    refine hR.mono ?_;rintro e W3 ⟨rfl,B,s⟩;have C:Br 292 W3 W.heap.size (cN q).D:=
     (s.block _ F.lt (λh=>h.elim (λe=>by omega) (λhx=>by have:=HX.out _ hx;have:=hb.size;omega))).trans F
    clear hR s F c I;have t:0<=(q:Int)*(q:Int):=Int.mul_nonneg (by omega) (by omega);have u:(q:Int)*(q:Int)<=97344:=by
     have h2:=Int.mul_le_mul (show(q:Int)<=312 by omega) (show(q:Int)<=312 by omega) (by omega) (by omega);exact h2
    have d:IntKind.u64.wrap ((q:Int)*(q:Int))=((q*q:Nat):Int):=by rw[eN _ (by omega) (by omega)];simp
    obtain⟨M,K⟩:∃ M,gz 312 q (q*q) (cN q).D=M:=⟨_,rfl⟩;have v:((q*q:Nat):Int)<=97344:=by rw[Ks];exact u
    obtain⟨k0,A⟩:∃ k,q*q=k:=⟨_,rfl⟩;have G:Hid (cN (q+1)=⟨M,(cN q).ps++[q]⟩):=Lib.hid (by rw[HT.out,K]);rw[A] at d K v;have O:=Lib.hid K;clear A K u t HT;gi_wp2
    gi_loopw [4] (λx wq=>∃ k:Nat,(k:Int)<=100000/\x=.int .u64 k/\(∃ f r,Br 292 wq W.heap.size r/\r.length=312/\gz f q k r=M/\312<=f+k)/\J ((cN q).ps.length+1) wq) (λx _=>312 - (intOf x).toNat)
    case atStart=>exact⟨k0,by omega,rfl,⟨312,(cN q).D,C,HL.out,O.out,by omega⟩,B⟩
    case round=>
     clear C B O d v;obtain⟨k,ah,rfl,⟨f,r,L,S,z,hf⟩,c⟩:=hrel;by_cases j:k<312
     ·have I:=L.cell k (by omega)
      have ai:=L.frozen k;have ag:(k:Int)<312:=by omega
      have aa:IntKind.u64.wrap ((k:Int)+(q:Int))=(k:Int)+(q:Int):=eN _ (by omega) (by omega);have O:=Lib.hid z;have Z:=Lib.hid S;clear z S;gi_wp2
      go_roundw
      case rel=>
       obtain⟨g,Y,V⟩:=AG f q k r j (by omega) hf;exact⟨k+q,by omega,by simp,⟨g,r.set k true,L.set k true,by rw[JA];exact Z.out,V.trans O.out,Y⟩,HJ.out _ _ _ c ((Below.refl _ _).setCell (by simp) _)⟩
      case measure=>simp[intOf];omega
     ·have HE:=Lib.hid ((AF f q k r j).symm.trans z)
      have U:¬(k:Int)<312:=by omega
      clear z S;gi_wp2
      go_roundw
      case rel=>
       refine⟨q+1,by omega,by omega,by simp,?_,?_⟩
       ·rw[G.out,<-HE.out];exact L
       ·rw[G.out];simpa using c
      case measure=>simp[intOf];omega
   ·have HS:=Lib.hid (AL q hdv y)
    rw[hdv] at I;clear hdv b;gi_wp2
    go_roundw
    case rel=>exact⟨q+1,by omega,by omega,by simp,by rw[HS.out];exact F,by rw[HS.out];exact c⟩
    case measure=>simp[intOf];omega
  ·have n:q=312:=by omega
   have T:J 64 wr:=by rw[n,AH] at c;exact c
   have U:¬(q:Int)<312:=by omega
   clear n c P;gi_wp2
   go_end0
   exact⟨⟨_,rfl⟩,T⟩
end
attribute [local go_sem] jV oL mE oM oN mF jz
theorem um (x:UInt32):bits .xor .u32 IntKind.u32.max (aa x)=aa (tU x):=by
 have:IntKind.u32.max=aa 0xffffffff:=by decide
 rw[this,mE];rfl
attribute [local go_sem] um
def mix (A B:List UInt32)(i:Nat):List UInt32:=B.take i++A.drop i
theorem qT (A B:List UInt32)(i:Nat)(h:A.length=B.length)(a:i<=A.length):(mix A B i).length=A.length:=by simp[mix];omega
theorem uo (A B:List UInt32)(i:Nat)(h:A.length=B.length)(d:i<A.length)(x:UInt32)(a:B.getD i 0=x):(mix A B i).set i x=mix A B (i+1):=by
 unfold mix;have b:i<B.length:=by omega
 have c:(B.take i).length=i:=by simp;omega
 rw[IU,IV b] at a;rw[LY _ _ (by omega),c,Lx,Kv d,Je,Jp b,KN];simp only[LA] at a;rw[a];rfl
theorem AT (A B:List UInt32)(i:Nat)(h:A.length=B.length)(a:i<A.length):(mix A B i).getD i 0=A.getD i 0:=by
 unfold mix;have b:(B.take i).length=i:=by simp;omega
 rw[IU,JB (by omega),b,Lx,Kv a,IU,IV a];rfl
theorem AU (s r:S8)(i:Nat)(h:i<8):(s.add r).list.getD i 0=cY (s.list.getD i 0) (r.list.getD i 0):=by
 match i,h with
 | 0,_=>rfl
 | 1,_=>rfl
 | 2,_=>rfl
 | 3,_=>rfl
 | 4,_=>rfl
 | 5,_=>rfl
 | 6,_=>rfl
 | 7,_=>rfl
theorem uq:∃ a,prog.info? 247=some a/\a.size=1:=by
 have h:(prog.info? 247).map (·.size)=some 1:=by kernel_rfl
 cases hq:prog.info? 247 with
 | none=>rw[hq] at h;cases h
 | some a=>rw[hq] at h;exact⟨a,rfl,by simpa using h⟩
theorem mM (s:S8)(v:Value)(l:List UInt8)(gk:Nat)(k:List UInt32)(w:World)(h:Rd w v l)(hl:l.length=64)(hk:Arr 264 w gk k)(S:k.length=64):
  Calls prog 248 #[.agg (aZ s.list),v,.pointer (some ⟨gk,0,none⟩)] w λe w'=>e=.returned (.agg (aZ (mD k s l).list))/\Kp w w':=by
 obtain⟨a,c,rfl,h1,h2⟩:=h.shape;rw[hl] at h h1 ⊢;have HL:=Lib.hid hl;have ag:=Lib.hid S;clear hl S;go_enter func248,ntmps248;go_wp2_with fail;refine(AS _ l _ (h.kp (((Kp.refl _).alloc _).alloc _)) HL.out).mono ?_;rintro e X ⟨rfl,A⟩;have B:Arr 252 X w.heap.size s.list:=((Arr.new _ w (aZ s.list) s.list rfl).alloc _).kp A;have O:Arr 252 X (w.heap.size+1) (bd 8):=by
  have:=Arr.new 252 (w.alloc (.cells (aZ s.list) 252)) (aZ (bd 8)) (bd 8) rfl;rw[Jn] at this;exact this.kp A
 have z:Kp w X:=(((Kp.refl w).alloc _).alloc _).trans A;have G:=hk.kp z;go_wp2_with(first
  | (refine iB (by kernel_rfl) rfl rfl (.tmp 7) (.tmp 24) rfl X.heap.size (bd 64) (dz l 64) rfl rfl (Arr.new _ _ _ _ rfl) (iD 64) (gZ l 64) ?_;intro w2 hW j))
 have m:=j.arr (B.alloc _) (by have:=B.lt;omega);have U:=j.arr (O.alloc _) (by have:=O.lt;omega);have T:=j.arr (G.alloc _) (by have:=G.lt;omega);have C:Kp w w2:=j.below (z.alloc _) (z.size);clear j B O G z A hk h;have c0:w2.cell? ⟨w.heap.size,0,none⟩=some (.int .u32 (aa s.a)):=m.cell 0 (Jw rfl);have c1:w2.cell? ⟨w.heap.size,1,none⟩=some (.int .u32 (aa s.b)):=m.cell 1 (Jw rfl);have c2:w2.cell? ⟨w.heap.size,2,none⟩=some (.int .u32 (aa s.c)):=m.cell 2 (Jw rfl);have c3:w2.cell? ⟨w.heap.size,3,none⟩=some (.int .u32 (aa s.d)):=m.cell 3 (Jw rfl);have c4:w2.cell? ⟨w.heap.size,4,none⟩=some (.int .u32 (aa s.e)):=m.cell 4 (Jw rfl);have c5:w2.cell? ⟨w.heap.size,5,none⟩=some (.int .u32 (aa s.f)):=m.cell 5 (Jw rfl);have c6:w2.cell? ⟨w.heap.size,6,none⟩=some (.int .u32 (aa s.g)):=m.cell 6 (Jw rfl);have c7:w2.cell? ⟨w.heap.size,7,none⟩=some (.int .u32 (aa s.h)):=m.cell 7 (Jw rfl);go_quiet (fail)
 clear c0 c1 c2 c3 c4 c5 c6 c7;go_wp2_with fail;obtain⟨N,Q⟩:∃ N,w2.drewN nq=N:=⟨_,rfl⟩;have M:=m.drewN nq;have K:=U.drewN nq;have H:=T.drewN nq;have I:=hW.drewN nq;have u:Kp w (w2.drewN nq):=C.drewN nq;rw[Q] at M K H I u ⊢;clear Q m U T hW C;have E:=ag.out;have V:=gZ l 64;go_loopw[8,9,10,11,12,13,14,15,41] (λsa sb sc sd se sf sg sh i wr=>∃ t:Nat,t<=64/\i=.int .i64 t/\(∃ r,r=oK k (dz l 64) s t/\sa=.int .u32 (aa r.a)/\sb=.int .u32 (aa r.b)/\sc=.int .u32 (aa r.c)/\sd=.int .u32 (aa r.d)/\se=.int .u32 (aa r.e)/\sf=.int .u32 (aa r.f)/\sg=.int .u32 (aa r.g)/\sh=.int .u32 (aa r.h))/\∃ n,wr=N.drewN n) (λ_ _ _ _ _ _ _ _ i _=>64 - (intOf i).toNat)
 case atStart=>exact⟨0,by omega,rfl,⟨s,rfl,rfl,rfl,rfl,rfl,rfl,rfl,rfl,rfl⟩,0,rfl⟩
 case round=>
  obtain⟨t,ht,rfl,⟨r,Y,rfl,rfl,rfl,rfl,rfl,rfl,rfl,rfl⟩,n,rfl⟩:=hrel;by_cases o:t<64
  ·have ck:=(H.drewN n).cell t (by omega)
   have cw:=(I.drewN n).cell t (by omega);have HR:=Lib.hid Y;have q:(t:Int)<64:=by omega
   obtain⟨wn,F⟩:∃ wn,N.drewN n=wn:=⟨_,rfl⟩;rw[F] at ck cw ⊢;have af:=Lib.hid F;clear Y E V F;have ah:IntKind.u32.signed=false:=rfl;go_wp2_with((go_at_call 268;refine(ue _ _).mono ?_;rintro e w' ⟨rfl,rfl⟩))
   go_quiet ((go_at_call 268;exact qj (At _ _)))
   go_wp2_with((go_at_call 268;refine(ue _ _).mono ?_;rintro e w' ⟨rfl,rfl⟩))
   go_roundw
   case rel=>exact⟨t+1,by omega,by go_num,⟨rnd r (k.getD t 0) ((dz l 64).getD t 0),by rw[HR.out];rfl,rfl,rfl,rfl,rfl,rfl,rfl,rfl,rfl⟩,n+nq,by rw[<-af.out,World.drewN_drewN]⟩
   case measure=>simp[intOf];omega
  ·obtain rfl:t=64:=by omega
   have HR:=Lib.hid Y;have L:=M.drewN n;have J:=K.drewN n;have p:Kp w (N.drewN n):=u.drewN n;obtain⟨w4,P⟩:∃ w4,N.drewN n=w4:=⟨_,rfl⟩;rw[P] at L J p ⊢;clear Y E V P M K u H I ht o;go_wp2_with fail;go_loopw[105] (λi wr=>∃ t:Nat,t<=8/\i=.int .i64 t/\Arr 252 wr w.heap.size (mix s.list (s.add r).list t)/\Arr 252 wr (w.heap.size+1) (bd 8)/\Kp w wr) (λi _=>8 - (intOf i).toNat)
   case atStart=>exact⟨0,by omega,rfl,L,J,p⟩
   case round=>
    clear L J p;obtain⟨i,hi,rfl,B,O,R⟩:=hrel;by_cases o:i<8
    ·have cb:=B.cell i (by rw[qT s.list (s.add r).list i rfl hi];exact o)
     have cf:=B.frozen i (by rw[qT s.list (s.add r).list i rfl hi];exact o);rw[AT s.list (s.add r).list i rfl o] at cb;have hs:=uo s.list (s.add r).list i rfl o _ (AU s r i o);have D:∀ W,(Instr.index 252 (.agg (aZ r.list)) (.int .i64 i)).run prog W=.ok (.int .u32 (aa (r.list.getD i 0))) W:=λW=>by
      obtain⟨ie,ab,Z⟩:=uq;exact qS W 252 247 8 ie _ underlying252 ab Z underlying247 rfl _ rfl i o _ (qM r.list i o)
     have ad:∀ W,(Instr.index 252 (.agg #[.int .u32 (aa r.a),.int .u32 (aa r.b),.int .u32 (aa r.c),.int .u32 (aa r.d),.int .u32 (aa r.e),.int .u32 (aa r.f),.int .u32 (aa r.g),.int .u32 (aa r.h)]) (.int .i64 i)).run prog W=.ok (.int .u32 (aa (r.list.getD i 0))) W:=D;generalize s.list.getD i 0=x at *;generalize r.list.getD i 0=y at *;have HS:=Lib.hid hs;have q:(i:Int)<8:=by omega
     clear hs D;go_wp2_with fail;go_roundw
     case rel=>exact⟨i+1,by omega,by go_num,B.setTo i _ HS.out,O.other _ _ (by simp),Below.setCell R (by simp) _⟩
     case measure=>simp[intOf];omega
    ·obtain rfl:i=8:=by omega
     have hm:mix s.list (s.add r).list 8=(s.add r).list:=rfl;rw[hm] at B;clear hm;go_wp2_with(first
      | (refine ja underlying252 (by kernel_rfl) rfl (.tmp 3) rfl w.heap.size (s.add r).list rfl B rfl ?_)
      | (refine iB (by kernel_rfl) rfl rfl (.tmp 6) (.tmp 116) rfl (w.heap.size+1) (bd 8) (s.add r).list rfl rfl O rfl rfl ?_;intro w5 ae j))
     refine bodyPost_ret (ln underlying252 (by kernel_rfl) rfl _ _ (w.heap.size+1) (s.add r).list rfl ae rfl) rfl ?_;exact⟨by rw[HR.out];rfl,j.below R (by omega)⟩
section
open Go.Shelf
attribute [local go_sem] Oper.semAt_some
theorem AV (w:World):Calls prog 245 #[] w λe w'=>e=.returned (.agg (aZ cT))/\Kp w w':=by
 refine(callsIn_wide (n:=4)).1 ?_;refine callsIn_of_wp_marks func245 rfl trivial ?_ rfl;refine wpIn_wide.2 ?_;simp only[ntmps245,Ka,Kb,Jt,Nat.reduceSub,JX,JY,Kg,JR,Kc];go_wp2;obtain⟨c,a⟩:∃ c,((w.alloc (.cells (aZ (bd 64)) 264)).alloc (.cells (aZ (bd 64)) 264)).alloc (.cells #[.int .i64 0] 3)=c:=⟨_,rfl⟩;change Code.wp prog _ _ _ (((w.alloc (.cells (aZ (bd 64)) 264)).alloc (.cells (aZ (bd 64)) 264)).alloc (.cells #[.int .i64 0] 3));rw[a];have z:c.heap.size=w.heap.size+3:=by rw[<-a];simp
 have s:Arr 264 c w.heap.size (bd 64):=by rw[<-a];exact((Arr.new _ w _ _ rfl).alloc _).alloc _
 have j:Arr 264 c (w.heap.size+1) (bd 64):=by
  have:=(Arr.new 264 (w.alloc (.cells (aZ (bd 64)) 264)) (aZ (bd 64)) (bd 64) rfl).alloc (.cells #[.int .i64 0] 3);rw[Jn,a] at this;exact this
 have y:c.cell? ⟨w.heap.size+1+1,0,none⟩=some (.int .i64 0)/\c.frozen? ⟨w.heap.size+1+1,0,none⟩=false:=by
  have:=heap_alloc_new ((w.alloc (.cells (aZ (bd 64)) 264)).alloc (.cells (aZ (bd 64)) 264)) (.cells #[.int .i64 0] 3);rw[Jn,Jn,a] at this;exact⟨by rw[cell_of_row c _ 0 _ _ _ this];rfl,by simp[World.frozen?,this]⟩
 have g:Kp w c:=by rw[<-a];exact(((Kp.refl w).alloc _).alloc _).alloc _
 clear a;refine wpIn_wide.1 (kS (F:=Fence.wide) (n:=4) rfl (by omega) (gf:=264) (lb:=#[]) rfl trivial (enters_of func264 (by kernel_rfl) rfl) (encs:=λi=>#[.int .u64 (iC i)]) (N:=64) (X:=λk=>k=w.heap.size+1\/k=w.heap.size+1+1) (by omega)
  (AP (4 - 1) (by omega) _ c (by omega)) (λ_=>rfl)
  (λi A=>Arr 264 A w.heap.size (bd 64)/\Arr 264 A (w.heap.size+1) (mix (bd 64) cT i)/\A.cell? ⟨w.heap.size+1+1,0,none⟩=some (.int .i64 i)/\A.frozen? ⟨w.heap.size+1+1,0,none⟩=false/\Kp w A)
  (λi A B h r=>⟨h.1.below r (by omega),h.2.1.below r (by omega),(r.cell (p:=⟨w.heap.size+1+1,0,none⟩) (by simp;omega)).trans h.2.2.1,(r.frozen (p:=⟨w.heap.size+1+1,0,none⟩) (by simp;omega)).trans h.2.2.2.1,Below.trans h.2.2.2.2 (r.mono (by omega))⟩)
  ⟨s,j,y.1,y.2,g⟩
  (λi=>{ tmps:=#[.pointer (some ⟨w.heap.size,0,none⟩),.pointer (some ⟨w.heap.size+1,0,none⟩),.pointer (some ⟨w.heap.size+1+1,0,none⟩),.int .u64 (iC i),.int .u64 (iC i),undef,undef,undef,undef,undef,undef,undef],defers:=[] }) ?assign ?body ?done)
 case assign=>
  intro l i W K g;gi_wp2
  exact g
 case body=>
  rintro l i W ⟨s,j,I,G,g⟩ x;obtain⟨o,m⟩:=AJ ⟨i,x⟩;simp only at o m;have f:cT.getD i 0=mK (iC i):=by
   rw[<-AI,IU,JQ,Ly x];rfl
  have q:(mix (bd 64) cT i).length=64:=by rw[qT (bd 64) cT i (by simp[iD];rfl) (by rw[iD];omega),iD]
  have d:=uo (bd 64) cT i (by simp[iD];rfl) (by rw[iD];omega) _ f;have P:=j.cell i (by omega);have O:=j.frozen i (by omega);generalize iC i=p at *;have E:(i:Int)<64:=by omega
  have J:=Lib.hid d;clear d f q;have C:prog.follows .mixedOrders=true:=by kernel_rfl
  gi_wp2
  gi_region_with_o (refine⟨trivial,?_⟩;gi_at_call 265;refine(CallsIn.inRound l (callsIn_wide.2 (AO p _ o m))).mono ?_;rintro e w' ⟨rfl,rfl⟩)
  all_goals gi_wp2
  all_goals exact⟨(((bg.refl _ W).setCell ⟨w.heap.size+1,i,none⟩ _ (.inl rfl)).setCell ⟨w.heap.size+1+1,0,none⟩ _ (.inr rfl)).drew,((s.other _ _ (by simp)).other _ _ (by simp;omega)).drew,((j.setTo i _ J.out).other _ _ (by simp)).drew,(Below.setCell (Below.setCell g (by simp) _) (by simp;omega) _).drew⟩
 case done=>
  rintro D W M ⟨s,j,I,G,g⟩ H;have v:mix (bd 64) cT 64=cT:=rfl;rw[v] at j;clear v;go_wp2_with(first
   | (refine ja underlying264 (by kernel_rfl) rfl (.tmp 1) rfl (w.heap.size+1) cT rfl j rfl ?_)
   | (refine iB (by kernel_rfl) rfl rfl (.tmp 0) (.tmp 11) rfl w.heap.size (bd 64) cT rfl rfl s (iD 64) rfl ?_;intro L u b))
  have t:=(b.other D (by omega)).trans H;refine⟨by simp,.inl ⟨_,_,rfl,run_takeDeferred t,?_⟩⟩;exact⟨_,ln underlying264 (by kernel_rfl) rfl _ _ w.heap.size cT rfl ((World.putObj_heap_other (by omega)).trans u) rfl,rfl,iW (b.below g (Ja _)) (by omega) (by rw[b.size];exact g.size) _⟩
end
attribute [local go_sem] jV oL mE oM oN mF jz um Ak Al
theorem AW (s:S8)(v:Value)(o:List UInt8)(p:Nat)(gk ck:Nat)(k:List UInt32)(w:World)(h:Rd w v o)(hl:p+64<=o.length)(hk:Arr 247 w gk k)(K:k.length=64):
  Calls prog 226 #[.agg (aZ s.list),v,.int .i64 p,.slice (some ⟨gk,0,none⟩) 64 ck] w λe w'=>e=.returned (.agg (aZ (mD k s ((o.drop p).take 64)).list))/\Kp w w':=by
 obtain⟨l,Z⟩:∃ l,(o.drop p).take 64=l:=⟨_,rfl⟩;rw[Z];have ae:=Lib.hid K;have ad:=Lib.hid Z;clear Z K;go_enter func226,ntmps226;go_wp2_with((at_make;(refine jb (z:=.int .u32 0) (b:=4) underlying250 (by kernel_rfl) rfl (by decide) rfl _ _ rfl 64 rfl rfl (by decide) ?_);intro S I;have B:=Lib.hid I;clear I))
 have E:Arr 252 ((w.alloc (.cells (aZ s.list) 252)).alloc (.cells (aZ (bd 8)) 252)) (w.heap.size+1) (bd 8):=by
  have:=Arr.new 252 (w.alloc (.cells (aZ s.list) 252)) (aZ (bd 8)) (bd 8) rfl;rw[Jn] at this;exact this
 have Q:Arr 252 S w.heap.size s.list:=by rw[B.out];exact((Arr.new _ w _ s.list rfl).alloc _).alloc _
 have O:Arr 252 S (w.heap.size+1) (bd 8):=by rw[B.out];exact E.alloc _
 have N:Arr 247 S (w.heap.size+1+1) (bO l 0):=by
  rw[B.out];have:=Arr.new 247 ((w.alloc (.cells (aZ s.list) 252)).alloc (.cells (aZ (bd 8)) 252)) (aZ (bd 64)) (bO l 0) rfl;rw[Jn,Jn,AQ] at this;exact this
 have P:Kp w S:=by rw[B.out];exact(((Kp.refl w).alloc _).alloc _).alloc _
 clear E;go_loopw[10] (λi wr=>∃ t:Nat,t<=16/\i=.int .i64 t/\Arr 252 wr w.heap.size s.list/\Arr 252 wr (w.heap.size+1) (bd 8)/\Arr 247 wr (w.heap.size+1+1) (bO l t)/\Kp w wr) (λi _=>16 - (intOf i).toNat)
 case atStart=>exact⟨0,by omega,rfl,Q,O,N,P⟩
 case round=>
  clear Q O N P B;obtain⟨t,W,rfl,y,E,x,u⟩:=hrel;by_cases D:t<16
  ·have L:∀ j,j<64->l.getD j 0=o.getD (p+j) 0:=λj hj=>by
    rw[<-ad.out,IU,Ls hj,LJ,IU]
   have J:iA l (dz l t) t=gW (o.getD (p+4*t) 0) (o.getD (p+4*t+1) 0) (o.getD (p+4*t+2) 0) (o.getD (p+4*t+3) 0):=by
    unfold iA;rw[if_pos D,L _ (by omega),L _ (by omega),L _ (by omega),L _ (by omega)];simp only[Lv]
   have m:=(oQ l t (by omega));rw[J] at m;have HS:=Lib.hid m;have A:=mL l t (by omega);have H:o.length<=maxLen:=by
    obtain⟨a,c,_,h1,h2⟩:=h.shape;omega
   unfold maxLen at H;clear L J m;go_wp2_with fail;refine(Az _ v o (p+4*t) _ (h.kp u) (by omega) (by simp)).mono ?_;rintro e w' ⟨rfl,n,rfl⟩;have ca:=(x.drewN n).cell t (by omega);have cf:=(x.drewN n).frozen t (by omega);have q:(t:Int)<64:=by omega
   clear A;go_wp2_with fail;go_roundw
   case rel=>exact⟨t+1,by omega,by go_num,(y.drewN n).other _ _ (by simp;omega),(E.drewN n).other _ _ (by simp),(x.drewN n).setTo t _ HS.out,Below.setCell (u.drewN n) (by simp;omega) _⟩
   case measure=>simp[intOf];omega
  ·obtain rfl:t=16:=by omega
   clear W D;go_wp2_with fail;go_loopw[11] (λi wr=>∃ t:Nat,16<=t/\t<=64/\i=.int .i64 t/\Arr 252 wr w.heap.size s.list/\Arr 252 wr (w.heap.size+1) (bd 8)/\Arr 247 wr (w.heap.size+1+1) (bO l t)/\Kp w wr) (λi _=>64 - (intOf i).toNat)
   case atStart=>exact⟨16,by omega,by omega,rfl,y,E,x,u⟩
   case round=>
    clear y E x u;obtain⟨t,aq,W,rfl,y,E,x,u⟩:=hrel;by_cases D:t<64
    ·have A:=mL l t (by omega)
     have J:iA l (dz l t) t=cY (cY (cY (small 17 19 10 ((bO l t).getD (t - 2) 0)) ((bO l t).getD (t - 7) 0)) (small 7 18 3 ((bO l t).getD (t - 15) 0))) ((bO l t).getD (t - 16) 0):=by
      unfold iA;rw[if_neg (by omega),jE l t _ (by omega),jE l t _ (by omega),jE l t _ (by omega),jE l t _ (by omega)]
     have m:=(oQ l t (by omega));rw[J] at m;have V:=x.cell (t - 2) (by omega);have U:=x.cell (t - 7) (by omega);have au:=x.cell (t - 15) (by omega);have ar:=x.cell (t - 16) (by omega);have ca:=x.cell t (by omega);have cf:=x.frozen t (by omega);generalize (bO l t).getD (t - 2) 0=x2 at *;generalize (bO l t).getD (t - 7) 0=x7 at *;generalize (bO l t).getD (t - 15) 0=ag at *;generalize (bO l t).getD (t - 16) 0=af at *;have i2:IntKind.i64.wrap ((t:Int) - 2)=(t:Int) - 2:=IW _ (by omega);have i7:IntKind.i64.wrap ((t:Int) - 7)=(t:Int) - 7:=IW _ (by omega);have ao:IntKind.i64.wrap ((t:Int) - 15)=(t:Int) - 15:=IW _ (by omega);have an:IntKind.i64.wrap ((t:Int) - 16)=(t:Int) - 16:=IW _ (by omega);have n2:((t:Int) - 2).toNat=t - 2:=by omega
     have n7:((t:Int) - 7).toNat=t - 7:=by omega
     have am:((t:Int) - 15).toNat=t - 15:=by omega
     have al:((t:Int) - 16).toNat=t - 16:=by omega
     have p2:(2:Int)<=(t:Int):=by omega
     have p7:(7:Int)<=(t:Int):=by omega
     have ak:(15:Int)<=(t:Int):=by omega
     have aj:(16:Int)<=(t:Int):=by omega
     have q2:(t:Int) - 2<64:=by omega
     have q7:(t:Int) - 7<64:=by omega
     have ai:(t:Int) - 15<64:=by omega
     have ah:(t:Int) - 16<64:=by omega
     have q:(t:Int)<64:=by omega
     have HS:=Lib.hid m;clear m J A;go_wp2_with((go_at_call 258;refine(qO _ _ _ (by decide) (by decide)).mono ?_;rintro e w' ⟨rfl,rfl⟩))
     go_still_tail 18,(by kernel_rfl)
     go_wp2_with fail;go_roundw
     case rel=>
      repeat apply Exists.intro
      refine⟨?_,rfl⟩;exact⟨t+1,by omega,by omega,by go_num,(y.other _ _ (by simp;omega)).drew,(E.other _ _ (by simp)).drew,(x.setTo t _ HS.out).drew,(Below.setCell u (by simp;omega) _).drew⟩
     case measure=>simp[intOf];omega
    ·obtain rfl:t=64:=by omega
     rw[ul] at x;have c0:wr.cell? ⟨w.heap.size,0,none⟩=some (.int .u32 (aa s.a)):=y.cell 0 (Jw rfl);have c1:wr.cell? ⟨w.heap.size,1,none⟩=some (.int .u32 (aa s.b)):=y.cell 1 (Jw rfl);have V:wr.cell? ⟨w.heap.size,2,none⟩=some (.int .u32 (aa s.c)):=y.cell 2 (Jw rfl);have c3:wr.cell? ⟨w.heap.size,3,none⟩=some (.int .u32 (aa s.d)):=y.cell 3 (Jw rfl);have c4:wr.cell? ⟨w.heap.size,4,none⟩=some (.int .u32 (aa s.e)):=y.cell 4 (Jw rfl);have c5:wr.cell? ⟨w.heap.size,5,none⟩=some (.int .u32 (aa s.f)):=y.cell 5 (Jw rfl);have c6:wr.cell? ⟨w.heap.size,6,none⟩=some (.int .u32 (aa s.g)):=y.cell 6 (Jw rfl);have U:wr.cell? ⟨w.heap.size,7,none⟩=some (.int .u32 (aa s.h)):=y.cell 7 (Jw rfl);have X:=hk.kp u;clear h hl hk;go_wp2_with fail;have C:=Lib.hid (Jb c0 (Jb c1 (Jb V (Jb c3 (Jb c4 (Jb c5 (Jb c6 U)))))));clear c0 c1 V c3 c4 c5 c6 U;have F:=ae.out;have R:=gZ l 64;go_loopw[16,17,18,19,20,21,22,23,24] (λsa sb sc sd se sf sg sh i wq=>∃ t:Nat,t<=64/\i=.int .i64 t/\(∃ r,r=oK k (dz l 64) s t/\sa=.int .u32 (aa r.a)/\sb=.int .u32 (aa r.b)/\sc=.int .u32 (aa r.c)/\sd=.int .u32 (aa r.d)/\se=.int .u32 (aa r.e)/\sf=.int .u32 (aa r.f)/\sg=.int .u32 (aa r.g)/\sh=.int .u32 (aa r.h))/\∃ n,wq=wr.drewN n) (λ_ _ _ _ _ _ _ _ i _=>64 - (intOf i).toNat)
     case atStart=>exact⟨0,by omega,rfl,⟨s,rfl,rfl,rfl,rfl,rfl,rfl,rfl,rfl,rfl⟩,0,rfl⟩
     case round=>
      obtain⟨t,W,rfl,⟨r,T,rfl,rfl,rfl,rfl,rfl,rfl,rfl,rfl⟩,n,rfl⟩:=hrel;by_cases D:t<64
      ·have ck:=(X.drewN n).cell t (by omega)
       have cw:=(x.drewN n).cell t (by omega);have HR:=Lib.hid T;have q:(t:Int)<64:=by omega
       obtain⟨wn,G⟩:∃ wn,wr.drewN n=wn:=⟨_,rfl⟩;rw[G] at ck cw ⊢;have ab:=Lib.hid G;clear T F R G;have ap:IntKind.u32.signed=false:=rfl;go_wp2_with fail;go_quiet ((go_at_call 258;exact qj (qO _ _ _ (by decide) (by decide))))
       go_wp2_with((go_at_call 258;refine(qO _ _ _ (by decide) (by decide)).mono ?_;rintro e w' ⟨rfl,rfl⟩))
       go_roundw
       case rel=>
        repeat apply Exists.intro
        refine⟨?_,rfl⟩;exact⟨t+1,by omega,by go_num,⟨rnd r (k.getD t 0) ((dz l 64).getD t 0),by rw[HR.out];rfl,rfl,rfl,rfl,rfl,rfl,rfl,rfl,rfl⟩,n+nq,by rw[<-ab.out,World.drewN_drewN]⟩
       case measure=>simp[intOf];omega
      ·obtain rfl:t=64:=by omega
       have HR:=Lib.hid T;clear T F R;obtain⟨c0,c1,V,c3,c4,c5,c6,U⟩:=C.out;go_wp2_with((refine iB (by kernel_rfl) rfl rfl (.tmp 8) (.tmp 206) rfl (w.heap.size+1) (bd 8) (s.add r).list rfl rfl (E.drewN n) rfl rfl ?_;intro w5 Y M))
       refine bodyPost_ret (ln underlying252 (by kernel_rfl) rfl _ _ (w.heap.size+1) (s.add r).list rfl Y rfl) rfl ?_;exact⟨by rw[HR.out];rfl,M.below (u.drewN n) (by omega)⟩
theorem AX (w:World):Calls prog 246 #[] w λe w'=>e=.returned (.agg (aZ dA.list))/\Kp w w':=by
 go_enter func246,ntmps246;have c:Arr 252 (w.alloc (.cells (aZ (bd 8)) 252)) w.heap.size (bd 8):=Arr.new _ w _ _ rfl;go_wp2_with((refine iB (by kernel_rfl) rfl rfl (.tmp 0) (.tmp 1) rfl w.heap.size (bd 8) dA.list rfl rfl c rfl rfl ?_;intro d b a))
 refine bodyPost_ret (ln underlying252 (by kernel_rfl) rfl _ _ w.heap.size dA.list rfl b rfl) rfl ?_;exact⟨rfl,a.below ((Kp.refl w).alloc _) (Ja _)⟩
theorem AY (w:World):Calls prog 225 #[] w λe w'=>e=.returned (.agg (aZ dA.list))/\Kp w w':=by
 go_enter func225,ntmps225;have c:Arr 252 (w.alloc (.cells (aZ (bd 8)) 252)) w.heap.size (bd 8):=Arr.new _ w _ _ rfl;go_wp2_with((refine iB (by kernel_rfl) rfl rfl (.tmp 0) (.tmp 1) rfl w.heap.size (bd 8) dA.list rfl rfl c rfl rfl ?_;intro d b a))
 refine bodyPost_ret (ln underlying252 (by kernel_rfl) rfl _ _ w.heap.size dA.list rfl b rfl) rfl ?_;exact⟨rfl,a.below ((Kp.refl w).alloc _) (Ja _)⟩
theorem AZ (w:World):Calls prog 224 #[] w λe w'=>(∃ g,e=.returned (.slice (some ⟨g,0,none⟩) 64 64)/\Arr 247 w' g cT/\w.heap.size<=g)/\Kp w w':=by
 go_enter func224,ntmps224;go_wp2;go_ret;exact⟨⟨w.heap.size,rfl,Arr.new _ w _ _ rfl,Ja _⟩,(Kp.refl w).alloc _⟩
def jF (i:Int):UInt32:=if 0<=i/\i<64 then cT.getD i.toNat 0 else 0
section
variable {P : Program}
end
theorem Arr.cells8 {s:S8}(h:Arr T w g s.list):
  w.cell? ⟨g,0,none⟩=some (.int .u32 (aa s.a))/\w.cell? ⟨g,1,none⟩=some (.int .u32 (aa s.b))/\w.cell? ⟨g,2,none⟩=some (.int .u32 (aa s.c))/\w.cell? ⟨g,3,none⟩=some (.int .u32 (aa s.d)) /\
  w.cell? ⟨g,4,none⟩=some (.int .u32 (aa s.e))/\w.cell? ⟨g,5,none⟩=some (.int .u32 (aa s.f))/\w.cell? ⟨g,6,none⟩=some (.int .u32 (aa s.g))/\w.cell? ⟨g,7,none⟩=some (.int .u32 (aa s.h)):=
 ⟨h.cell 0 (Jw rfl),h.cell 1 (Jw rfl),h.cell 2 (Jw rfl),h.cell 3 (Jw rfl),h.cell 4 (Jw rfl),h.cell 5 (Jw rfl),h.cell 6 (Jw rfl),h.cell 7 (Jw rfl)⟩
theorem Arr.frozen8 {s:S8}(h:Arr T w g s.list):
  w.frozen? ⟨g,0,none⟩=false/\w.frozen? ⟨g,1,none⟩=false/\w.frozen? ⟨g,2,none⟩=false/\w.frozen? ⟨g,3,none⟩=false/\w.frozen? ⟨g,4,none⟩=false/\w.frozen? ⟨g,5,none⟩=false/\w.frozen? ⟨g,6,none⟩=false/\w.frozen? ⟨g,7,none⟩=false:=
 ⟨h.frozen 0 (Jw rfl),h.frozen 1 (Jw rfl),h.frozen 2 (Jw rfl),h.frozen 3 (Jw rfl),h.frozen 4 (Jw rfl),h.frozen 5 (Jw rfl),h.frozen 6 (Jw rfl),h.frozen 7 (Jw rfl)⟩
theorem Arr.set8 {s:S8}(h:Arr T w g s.list)(r:S8):
  Arr T ((((((((w.setCell ⟨g,0,none⟩ (.int .u32 (aa r.a))).setCell ⟨g,1,none⟩ (.int .u32 (aa r.b))).setCell ⟨g,2,none⟩ (.int .u32 (aa r.c))).setCell ⟨g,3,none⟩ (.int .u32 (aa r.d))).setCell ⟨g,4,none⟩ (.int .u32 (aa r.e))).setCell ⟨g,5,none⟩ (.int .u32 (aa r.f))).setCell ⟨g,6,none⟩ (.int .u32 (aa r.g))).setCell ⟨g,7,none⟩ (.int .u32 (aa r.h))) g r.list:=
 (((((((h.set 0 r.a _ rfl).set 1 r.b _ rfl).set 2 r.c _ rfl).set 3 r.d _ rfl).set 4 r.e _ rfl).set 5 r.f _ rfl).set 6 r.g _ rfl).set 7 r.h _ rfl
theorem mN {a:World}(h:Below B a w)(b:B<=g)(l k j i f e d c:Value):
  Below B a ((((((((w.setCell ⟨g,0,none⟩ l).setCell ⟨g,1,none⟩ k).setCell ⟨g,2,none⟩ j).setCell ⟨g,3,none⟩ i).setCell ⟨g,4,none⟩ f).setCell ⟨g,5,none⟩ e).setCell ⟨g,6,none⟩ d).setCell ⟨g,7,none⟩ c):=
 (((((((h.setCell (p:=⟨g,0,none⟩) b _).setCell (p:=⟨g,1,none⟩) b _).setCell (p:=⟨g,2,none⟩) b _).setCell (p:=⟨g,3,none⟩) b _).setCell (p:=⟨g,4,none⟩) b _).setCell (p:=⟨g,5,none⟩) b _).setCell (p:=⟨g,6,none⟩) b _).setCell (p:=⟨g,7,none⟩) b _
theorem mO (r:S8):Value.agg (aZ r.list)=.agg #[.int .u32 (aa r.a),.int .u32 (aa r.b),.int .u32 (aa r.c),.int .u32 (aa r.d),.int .u32 (aa r.e),.int .u32 (aa r.f),.int .u32 (aa r.g),.int .u32 (aa r.h)]:=rfl
section
open Go.Shelf
attribute [local go_sem] Oper.semAt_some
theorem qW (a:Option Addr)(n c:Nat)(w:World):
  Calls prog 247 #[.slice a n c,.int .i64 64] w λe w'=>e=.returned (.func (.func 266) #[] #[.pointer (some ⟨w.heap.size,0,none⟩),.pointer (some ⟨w.heap.size+1,0,none⟩)]) /\
   (w.alloc (.cells #[.slice a n c] 24)).alloc (.cells #[.int .i64 64] 3)=w':=by
 go_enter func247,ntmps247;go_wp2;go_ret;exact⟨rfl,rfl⟩
def dd (a:Option Addr)(i:Nat):Value:=
 match a with
 | some ⟨b,o,_⟩=>.slice (some ⟨b,o+64*i,none⟩) 64 64
 | none=>undef
theorem uB {X:Nat->Prop}{A B:World}(h:bg X A B){p:Addr}(a:A.cell? p=some v)(b:¬X p.block):B.cell? p=some v:=
 (Ll (w:=A) (h.block p.block (Jz A p a) b)).trans a
theorem mQ (m:Nat)(hm:1<=m)(X:Nat->Prop)(w:World)(a:Option Addr)(N c n j:Nat)(d:w.cell? ⟨n,0,none⟩=some (.slice a (64*N) c))(g:w.cell? ⟨j,0,none⟩=some (.int .i64 64))
  (D:¬X n) (C:¬X j) (hc:64*N<=c) (B:c<=maxLen) (I:0<N->∃ b o,a=some ⟨b,o,none⟩):
  qt Fence.wide m prog 266 #[.pointer (some ⟨n,0,none⟩),.pointer (some ⟨j,0,none⟩)] (λi=>#[dd a i]) N X w:=by
 intro l J W H V U M K O;have HJ:=Lib.hid M;have Z:=Lib.hid K;have q:=(H.cell (p:=⟨n,0,none⟩) (Jz w _ d)).trans d;have r:=(H.cell (p:=⟨j,0,none⟩) (Jz w _ g)).trans g;have t:n≠l:=by have:=Jz w _ d;simp at this;omega
 have s:j≠l:=by have:=Jz w _ g;simp at this;omega
 have R:=Lib.hid (Jb t s);have HA:=Lib.hid I;unfold maxLen at B;clear M K d g t s I;refine callsIn_of_wp func266 rfl trivial ?_ rfl;simp only[ntmps266,Ka,Kb,Jo,Jt,Nat.reduceAdd,Nat.reduceSub,JX,JY,Kg,JR,Kc];gi_wp2
 gi_loopw [4] (λp wr=>∃ k:Nat,k<=N/\p=.int .i64 (64*(k:Int))/\wr.cell? ⟨n,0,none⟩=some (.slice a (64*N) c)/\wr.cell? ⟨j,0,none⟩=some (.int .i64 64)/\J k wr) (λp _=>64*N - (intOf p).toNat)
 case atStart=>exact⟨0,by omega,rfl,q,r,O⟩
 case round=>
  clear q r O;obtain⟨k,hk,rfl,d,g,A⟩:=hrel;by_cases y:k<N
  ·obtain⟨b,o,rfl⟩:=HA.out (by omega)
   have F:64*(k:Int)<64*(N:Int):=by omega
   have S:¬c=64*k:=by omega
   have e1:64*N - 64*k=64*(N - k):=by omega
   have T:64*(k:Int)+64<=64*(N:Int):=by omega
   have G:64*k+64<=c:=by omega
   have Y:64*k+64 - 64*k=64:=by omega
   gi_wp2
   gi_region
   obtain⟨fn,tmps,u,P,E,L⟩:=Z.out k wr.drew y (HJ.out _ _ _ A ((Below.refl _ _).drew));simp only[dd] at E;gi_wp2
   refine L.mono ?_;rintro e Q ⟨rfl,z,f⟩;have v:Q.cell? ⟨n,0,none⟩=some (.slice (some ⟨b,o,none⟩) (64*N) c):=uB f d (λh=>h.elim (λe=>R.out.1 e) D);have x:Q.cell? ⟨j,0,none⟩=some (.int .i64 64):=uB f g (λh=>h.elim (λe=>R.out.2 e) C);clear d g A f L E;gi_wp2
   go_roundw
   case rel=>exact⟨k+1,by omega,by congr 1,v,x,z⟩
   case measure=>simp[intOf];omega
  ·gi_wp2
   go_end0
   obtain rfl:k=N:=by omega
   exact⟨⟨_,rfl⟩,A⟩
end
theorem pN {l:List UInt8}(h:Ow e w B v l)(a:0<l.length):∃ g c,v=.slice (some ⟨g,0,none⟩) l.length c/\B<=g/\g<w.heap.size/\l.length<=c/\c<=maxLen:=by
 rcases h.shape with⟨_,h0⟩|h
 ·rw[h0] at a;simp at a
 ·exact h
theorem xS (x:UInt8)(w:World):Calls prog 227 #[.int .u8 (x.toNat:Int)] w λe w'=>e=.returned (.int .u8 ((cD x).toNat:Int))/\w=w':=by
 rw[pL];exact Em x.toNat w (dj x)
theorem xT {w':World}(h:w'.heap[g]?=w.heap[g]?)(i:Nat):w'.cell? ⟨g,i,none⟩=w.cell? ⟨g,i,none⟩:=by
 simp[World.cell?,h]
theorem Ev (n:Nat)(f:Nat->UInt8):tab (n+1) f=tab n f++[f n]:=by simp[tab,List.range_succ]
theorem Ew (w:World):Calls prog 187 #[] w λe w'=>(e=.returned (.slice (some ⟨w.heap.size,0,none⟩) 256 256)/\By 5 w' w.heap.size fL)/\Kp w w':=by
 have U:=aj;have af:=Lib.hid (λn=>fi n p3B);have ae:=Lib.hid (λn=>Ev n p3B);have F:=Lib.hid (λn i h=>iJ n p3B i h);have ah:=Lib.hid xR;have HF:=Lib.hid (λk l h=>fA.next (k:=k) (l:=l) h);have H0:Hid (fA 0 ((List.replicate 256 (0:UInt8)).set 0 (cD 0))):=fA.begin;obtain⟨L0,D⟩:∃ L,(List.replicate 256 (0:UInt8)).set 0 (cD 0)=L:=⟨_,rfl⟩;rw[D] at H0;have ai:=Lib.hid D;have ag:Hid (∀ W,Calls prog 227 #[.int .u8 0] W λe w'=>e=.returned (.int .u8 ((cD 0).toNat:Int))/\W=w'):=λW=>xS 0 W
 have HR:Hid ((List.replicate 256 (0:UInt8)).length=256):=JT;clear D;go_enter func187,ntmps187;go_wp2_with(first
  | (at_make;refine jb (z:=.int .u8 0) (b:=1) underlying24 info5 rfl (by decide) rfl _ _ rfl 256 rfl rfl (by omega) ?_;intro K g;have q:By 5 K w.heap.size (List.replicate 256 0):=(by rw[g];exact By.fresh _ _ _);have k0:Kp w K:=(by rw[g];exact(Kp.refl _).alloc _);have O:w.heap.size+1=K.heap.size:=(by rw[g];simp);clear g;have c0:=q.cell 0 (by rw[HR.out];omega);have f0:=q.frozen 0)
  | (go_at_call 227;refine(ag.out _).mono ?_;rintro _ _ ⟨rfl,rfl⟩))
 have c:=q.set 0 (cD 0) ai.out;have y:=Below.setCell k0 (p:=⟨w.heap.size,0,none⟩) (by simp) (.int .u8 ((cD 0).toNat:Int));obtain⟨w2,u⟩:∃ w2,K.setCell ⟨w.heap.size,0,none⟩ (.int .u8 ((cD 0).toNat:Int))=w2:=⟨_,rfl⟩;have N:w2.heap.size=w.heap.size+1:=by rw[<-u,O];simp[World.setCell]
 have r:K.heap.size=w2.heap.size:=by omega
 rw[u] at c y ⊢;have o:Kp w w2:=y;have ap:Hid (tab 1 p3B=[1]):=rfl;rw[r];clear q c0 f0 k0 O r u ai ag HR y;go_loopw[2,3] (λvp p wr=>∃ n:Nat,1<=n/\n<=255/\p=.int .i64 n/\Ow 5 wr (w.heap.size+1) vp (tab n p3B)/\By 5 wr w.heap.size L0/\Kp w wr/\w.heap.size+1<=wr.heap.size) (λ_ p _=>255 - (intOf p).toNat)
 case atStart=>exact⟨1,by omega,by omega,rfl,by rw[ap.out];exact Ow.lit w2 5 (w.heap.size+1) 1 _ [1] (by omega) rfl (by decide) rfl,c.kp ((Kp.refl _).alloc _),o.alloc _,by simp;omega⟩
 case round=>
  clear c o N;obtain⟨n,h1,hn,rfl,s,c,hk,hs⟩:=hrel;have I:=af.out n;obtain⟨f,cp,rfl,q1,q2,q3,q4⟩:=pN s (by omega);rw[I] at s q3 ⊢;unfold maxLen at q4;by_cases j:n<255
  ·have hq:(n:Int)<255:=by omega
   have ax:IntKind.i64.wrap ((n:Int) - 1)=(n:Int) - 1:=IW _ (by omega);have aw:((n:Int) - 1).toNat=n - 1:=by omega
   have av:0<=(n:Int) - 1:=by omega
   have au:(n:Int) - 1<(n:Int):=by omega
   obtain⟨b,ak,B,t,a⟩:=s.rd.at 0 (by omega);cases B;have A:=a (n - 1) (by omega);rw[F.out n (n - 1) (by omega)] at A;have an:wr.cell? ⟨f,n - 1,none⟩=some (.int .u8 ((p3B (n - 1)).toNat:Int)):=by rw[JS] at A;exact A
   have hp:=ah.out (n - 1);rw[show n - 1+1=n by omega] at hp;have H:=pI (p3B (n - 1)) 3 wr;rw[<-hp] at H;have HM:Hid (Calls prog 228 #[.int .u8 ((p3B (n - 1)).toNat:Int),.int .u8 3] wr λe w'=>e=.returned (.int .u8 ((p3B n).toNat:Int))/\wr=w'):=H;have M:=ae.out n;generalize p3B (n - 1)=X at *;generalize p3B n=Y at *;generalize tab n p3B=T at *;have HN:=Lib.hid M;have HT:=Lib.hid I;clear hp H a A M I;go_wp2_with(first
    | (go_at_call 228;refine HM.out.mono ?_;rintro _ _ ⟨rfl,rfl⟩)
    | (at_builtin;refine bz U rfl _ _ rfl (w.heap.size+1) _ _ rfl (s.kp ((Kp.refl _).alloc _)) _ [Y] rfl (Rd.box _ _ _ Y rfl) ?c1 ?c2 ?_;rotate_right;intro v' w2 Q hg _))
   case c1=>rw[HT.out];simp;omega
   case c2=>simp;omega
   rw[<-HN.out] at Q;have o:Kp w w2:=Kp.grown (hk.alloc _) hg (λk e=>by have:=s.own_ge k e;omega);have E:By 5 w2 w.heap.size L0:=(hg.block w.heap.size (by have:=c.lt;simp;omega) (λe=>by have:=s.own_ge _ e.symm;omega)).trans (c.kp ((Kp.refl wr).alloc _));have P:=hg.size;have al:w.heap.size+1<=w2.heap.size:=by rw[Jn] at P;omega
   clear HM an c hk hs P hg;go_roundw
   case rel=>exact⟨n+1,by omega,by omega,by go_num,Q,E,o,al⟩
   case measure=>simp[intOf];omega
  ·obtain rfl:n=255:=by omega
   obtain⟨b,ak,B,t,a⟩:=s.rd.at 0 (by omega);cases B;have hP:∀ i,i<255->wr.cell? ⟨f,i,none⟩=some (.int .u8 ((p3B i).toNat:Int)):=λi hi=>by
    have A:=a i hi;rw[F.out 255 i hi,JS] at A;exact A
   have J:=Lib.hid hP;have ar:w.heap.size≠f:=by omega
   have S:f≠w.heap.size:=by omega
   clear a j s hn h1 I hP af ae F ah;go_wp2_with fail;rw[show((255:Nat):Int)=(255:Int) from rfl];go_loopw[4] (λp d=>∃ (k:Nat) (l:List UInt8),k<=255/\p=.int .i64 k/\Hid (fA k l)/\By 5 d w.heap.size l/\Hid (∀ i,i<255->d.cell? ⟨f,i,none⟩=some (.int .u8 ((p3B i).toNat:Int)))/\Kp w d) (λp _=>255 - (intOf p).toNat)
   case atStart=>exact⟨0,L0,by omega,rfl,H0,c,J,hk⟩
   case round=>
    clear c J hk hs q2 t;obtain⟨d,rfl⟩:∃ d,d=wr:=⟨_,rfl⟩;obtain⟨k,l,hk,rfl,G,c,J,ab⟩:=hrel;by_cases j:k<255
    ·have R:=Lib.hid (HF.out k l G.out j)
     have am:l.length=256:=G.out.1;have c1:=J.out k j;obtain⟨m,H⟩:∃ m,(255 - k) % 255=m:=⟨_,rfl⟩;have x:m<255:=by omega
     have c2:=J.out m x;have hX:=lS k;have C:=gJ k;have ht:=xS (p3B m) d.drew;rw[H,<-hX] at R;rw[<-hX] at C;have c3:=c.cell (p3B k).toNat (by rw[am];exact C);have f3:=c.frozen (p3B k).toNat;have i1:IntKind.i64.wrap (255 - (k:Int))=255 - (k:Int):=IW _ (by omega);have i2:(255 - (k:Int)).tmod 255=(m:Int):=by rw[JF (by omega)];omega
     have i3:(255 - (k:Int)) % 255=(m:Int):=by omega
     have i4:(m:Int)<255:=by omega
     have i5:(k:Int)<255:=by omega
     have i6:((p3B k).toNat:Int)<256:=by omega
     have i7:IntKind.i64.wrap ((p3B k).toNat:Int)=((p3B k).toNat:Int):=IW _ (by omega);have E:=(c.kp (Kp.refl d).drew).set (p3B k).toNat (cD (p3B m)) rfl;have v:∀ i V,d.cell? ⟨f,i,none⟩=some V->(d.drew.setCell ⟨w.heap.size,(p3B k).toNat,none⟩ (.int .u8 ((cD (p3B m)).toNat:Int))).cell? ⟨f,i,none⟩=some V:=λi V h=>(xT (Below.heap_setCell d.drew ⟨w.heap.size,(p3B k).toNat,none⟩ (.int .u8 ((cD (p3B m)).toNat:Int)) f S) i).trans h
     have aq:Hid (∀ i,i<255->(d.drew.setCell ⟨w.heap.size,(p3B k).toNat,none⟩ (.int .u8 ((cD (p3B m)).toNat:Int))).cell? ⟨f,i,none⟩=some (.int .u8 ((p3B i).toNat:Int))):=λi hi=>v i _ (J.out i hi)
     have HS:=Lib.hid v;have aa:=Below.setCell ab.drew (p:=⟨w.heap.size,(p3B k).toNat,none⟩) (by simp) (.int .u8 ((cD (p3B m)).toNat:Int));have az:d.drew.cell? ⟨w.heap.size,(p3B k).toNat,none⟩=_:=c3;have ay:d.drew.frozen? ⟨w.heap.size,(p3B k).toNat,none⟩=_:=f3;have i8:0<=(m:Int):=by omega
     clear H hX C v c3 f3;have aB:Hid (aV k<256):=gJ k;generalize hZ:cD (p3B m)=Z at *;generalize hY:p3B m=Y at *;generalize ad:p3B k=X at *;generalize ao:l.set X.toNat Z=l2 at *;have HZ:=Lib.hid hZ;have HY:=Lib.hid hY;have aA:=Lib.hid ad;clear hZ hY ad ao;go_wp2_with fail;go_region_held3 (λW=>W.cell? ⟨f,k,none⟩=some (.int .u8 (X.toNat:Int))/\W.cell? ⟨f,m,none⟩=some (.int .u8 (Y.toNat:Int)))
      (first
       | exact⟨c1,c2⟩
       | exact⟨HS.out _ _ c1,HS.out _ _ c2⟩)
      (first
       | (go_at_call 227;refine ht.mono ?_;rintro _ _ ⟨rfl,rfl⟩))
     all_goals
      go_wp2_with fail;go_roundw
      case rel=>exact⟨k+1,l2,by omega,by go_num,R,E,aq,aa⟩
      case measure=>simp[intOf];omega
    ·obtain rfl:k=255:=by omega
     have I:=G.out.all;rw[I] at c;go_wp2_with fail;go_ret;exact⟨⟨rfl,c⟩,ab⟩
theorem EE (W:List UInt8)(i k:Nat)(a:W.length=4*i+k)(e:k<4):
  (i % 4≠0->W.getD (4*i - 16+k) 0 ^^^ W.getD (4*i - 4+k) 0=fj W) /\
  (i % 4=0->k≠0->W.getD (4*i - 16+k) 0 ^^^ bS (W.getD (4*i - 4+(k+1) % 4) 0)=fj W) /\
  (i % 4=0->k=0->W.getD (4*i - 16+k) 0 ^^^ (bS (W.getD (4*i - 4+(k+1) % 4) 0) ^^^ eh (i / 4 - 1))=fj W):=by
 have d:(4*i+k) / 4=i:=by omega
 have c:(4*i+k) % 4=k:=by omega
 refine⟨λh=>?_,λh b=>?_,λh b=>?_⟩
 ·unfold fj
  simp only[a,d,c,h,if_false,false_and]
 ·unfold fj
  simp only[a,d,c,h,b,if_true,if_false,and_false]
 ·unfold fj
  simp only[a,d,c];rw[if_pos ⟨h,b⟩,if_pos h]
theorem EF (v:Value)(key:List UInt8)(bx:Nat)(w:World)(hv:Rd w v key)(a:key.length=16)(hX:By 5 w bx fL):
  Calls prog 188 #[v,.slice (some ⟨bx,0,none⟩) 256 256] w λe w'=>(∃ r,e=.returned r/\Ow 5 w' w.heap.size r (cK key))/\Kp w w':=by
 have U:=aj;obtain⟨av,cv,rfl,h1,h2⟩:=hv.shape;rw[a] at hv h1 ⊢;have HK:=Lib.hid a;have HL:Hid (∀ n,(dC key n).length=16+n):=λn=>by rw[ki,a]
 have HT:Hid (∀ n,dC key n++[fj (dC key n)]=dC key (n+1)):=λn=>rfl
 have af:Hid (dC key 160=cK key):=rfl;have ag:Hid (dC key 0=key):=rfl;generalize hF:dC key=F at *;generalize cK key=K at *;clear hF;go_enter func188,ntmps188;go_wp2_with(at_builtin;refine bz U rfl _ _ rfl w.heap.size _ [] rfl (Ow.lit w _ _ 0 #[] [] (Ja _) rfl (by omega) rfl) _ key rfl (hv.kp ((Kp.refl _).alloc _)) (by rw[HK.out];simp) (by simp) ?_;intro v1 w1 S X _)
 have W:Kp w w1:=Kp.grown ((Kp.refl w).alloc _) X (λk e=>by cases e;exact Ja _);have E:Ow 5 w1 w.heap.size v1 (F 0):=by rw[ag.out];simpa using S
 have an:=hX.lt;clear X S hv h1 h2;go_loopw[5,6,7] (λv r p wr=>∃ (i:Nat) (x:Value),4<=i/\i<=44/\p=.int .i64 i/\x=v/\r=.int .u8 ((eh ((i - 1) / 4)).toNat:Int)/\Ow 5 wr w.heap.size v (F (4*i - 16))/\Kp w wr) (λ_ _ p _=>44 - (intOf p).toNat)
 case atStart=>exact⟨4,_,by omega,by omega,rfl,rfl,rfl,E,W⟩
 case round=>
  clear E W;obtain⟨i,x,h4,hi,rfl,rfl,rfl,j,a⟩:=hrel;by_cases al:i<44
  ·have q1:(i:Int)<44:=by omega
   have w1:IntKind.i64.wrap (4*(i:Int))=4*(i:Int):=IW _ (by omega);have w2:IntKind.i64.wrap (4*(i:Int) - 4)=4*(i:Int) - 4:=IW _ (by omega);have w3:IntKind.i64.wrap (4*(i:Int) - 16)=4*(i:Int) - 16:=IW _ (by omega);have t:(i:Int).tmod 4=((i % 4:Nat):Int):=by rw[JF (by omega)];omega
   have d:(i:Int) % 4=((i % 4:Nat):Int):=by omega
   go_wp2_with fail;go_loopw[5,8] (λv p wr=>∃ (k:Nat) (x:Value),k<=4/\p=.int .i64 k/\x=v/\Ow 5 wr w.heap.size v (F (4*i - 16+k))/\Kp w wr) (λ_ p _=>4 - (intOf p).toNat)
   case atStart=>exact⟨0,_,by omega,rfl,rfl,j,a⟩
   case round=>
    clear j a;obtain⟨k,x,am,rfl,rfl,j,a⟩:=hrel;by_cases T:k<4
    ·have qk:(k:Int)<4:=by omega
     obtain⟨n,hn⟩:∃ n,4*i - 16+k=n:=⟨_,rfl⟩;have V:=HL.out n;rw[hn] at j;have A:4*i - 16+(k+1)=n+1:=by omega
     have y:=Lib.hid A;have u:=HT.out n;obtain⟨P,O,M⟩:=EE (F n) i k (by rw[V];omega) T;rw[hn] at P O M;obtain⟨N,hN⟩:∃ N,16+n=N:=⟨_,rfl⟩;rw[hN] at V;obtain⟨p1,R⟩:∃ p,4*i - 4+k=p:=⟨_,rfl⟩;obtain⟨m,hm⟩:∃ m,(k+1) % 4=m:=⟨_,rfl⟩;obtain⟨aV,Q⟩:∃ p,4*i - 4+m=p:=⟨_,rfl⟩;rw[R] at P;rw[hm,Q] at O M;have L:=Lib.hid j.own_ge;obtain⟨g,c,rfl,g1,g2,g3,g4⟩:=pN j (by omega);obtain⟨b,ak,ad,ai,h⟩:=j.rd.at 0 (by omega);cases ad;have c1:=h p1 (by omega);have c2:=h n (by omega);have c3:=h aV (by omega);rw[JS] at c1 c2 c3;have c4:=(hX.kp a).cell ((F n).getD aV 0).toNat (by rw[nW];exact dj _);rw[pM] at c4;have aa:=dj ((F n).getD aV 0);have i6:(((F n).getD aV 0).toNat:Int)<256:=by omega
     have i7:IntKind.i64.wrap (((F n).getD aV 0).toNat:Int)=(((F n).getD aV 0).toNat:Int):=IW _ (by omega);have x1:=bV ((F n).getD n 0) ((F n).getD p1 0);have x2:=bV ((F n).getD n 0) (bS ((F n).getD aV 0));have x3:=bV (bS ((F n).getD aV 0)) (eh ((i - 1) / 4));have x4:=bV ((F n).getD n 0) (bS ((F n).getD aV 0) ^^^ eh ((i - 1) / 4));rw[V] at j g3 ⊢;have HN:=Lib.hid V;unfold maxLen at g4;have e1:4*(i:Int) - 4+(k:Int)=(p1:Int):=by omega
     have e2:4*(i:Int) - 16+(k:Int)=(n:Int):=by omega
     have e3:4*(i:Int) - 4+(m:Int)=(aV:Int):=by omega
     have v1:IntKind.i64.wrap (p1:Int)=p1:=IW _ (by omega);have v2:IntKind.i64.wrap (n:Int)=n:=IW _ (by omega);have v3:IntKind.i64.wrap (aV:Int)=aV:=IW _ (by omega);have v4:IntKind.i64.wrap ((k:Int)+1)=(k:Int)+1:=IW _ (by omega);have v5:((k:Int)+1).tmod 4=(m:Int):=by rw[JF (by omega)];omega
     have v6:((k:Int)+1) % 4=(m:Int):=by omega
     have u1:(p1:Int)<(N:Int):=by omega
     have u2:(n:Int)<(N:Int):=by omega
     have u3:(aV:Int)<(N:Int):=by omega
     have ao:N<=176:=by omega
     clear h V hN R Q hm hn;by_cases q:i % 4=0
     ·rw[q] at t d
      by_cases D:k=0
      ·have f:=M q D
       rw[show i / 4 - 1=(i - 1) / 4 by omega] at f;rw[f] at x4;have G:((k:Int)==0)=true:=by rw[D];rfl
       clear D;generalize (F n).getD aV 0=X3 at *;generalize (F n).getD p1 0=X1 at *;generalize (F n).getD n 0=X2 at *;generalize bS X3 ^^^ eh ((i - 1) / 4)=Z at *;generalize bS X3=X4 at *;generalize C:fj (F n)=Y at *;have HY:=Lib.hid u;clear P O M x1 x2 C f u;go_wp2_with(at_builtin;refine bz U rfl _ _ rfl w.heap.size _ _ rfl (j.kp ((Kp.refl _).alloc _)) _ [Y] rfl (Rd.box _ _ _ Y rfl) (by rw[HN.out];simp;omega) (a.alloc _).size ?_;intro v' w2 l H _)
       rw[HY.out] at l;have B:Kp w w2:=Kp.grown (a.alloc _) H L.out;clear H j a;go_roundw
       case rel=>exact⟨k+1,_,by omega,by go_num,rfl,by rw[y.out];exact l,B⟩
       case measure=>simp[intOf];omega
      ·have f:=O q D
       rw[f] at x2;have G:¬(k:Int)=0:=by omega
       have ah:((k:Int)==0)=false:=Jd.2 G;generalize (F n).getD aV 0=X3 at *;generalize (F n).getD p1 0=X1 at *;generalize (F n).getD n 0=X2 at *;generalize bS X3=X4 at *;generalize C:fj (F n)=Y at *;have HY:=Lib.hid u;clear P O M x1 x3 x4 C f u;go_wp2_with(at_builtin;refine bz U rfl _ _ rfl w.heap.size _ _ rfl (j.kp ((Kp.refl _).alloc _)) _ [Y] rfl (Rd.box _ _ _ Y rfl) (by rw[HN.out];simp;omega) (a.alloc _).size ?_;intro v' w2 l H _)
       rw[HY.out] at l;have B:Kp w w2:=Kp.grown (a.alloc _) H L.out;clear H j a;go_roundw
       case rel=>exact⟨k+1,_,by omega,by go_num,rfl,by rw[y.out];exact l,B⟩
       case measure=>simp[intOf];omega
     ·have f:=P q
      rw[f] at x1;have s:¬((i % 4:Nat):Int)=0:=by omega
      have I:(((i % 4:Nat):Int)==0)=false:=Jd.2 s;obtain⟨im,o⟩:∃ m,i % 4=m:=⟨_,rfl⟩;rw[o] at t d s I;generalize (F n).getD p1 0=X1 at *;generalize (F n).getD n 0=X2 at *;generalize C:fj (F n)=Y at *;have HY:=Lib.hid u;clear P O M x2 x3 x4 c3 c4 aa i6 i7 C f u o;go_wp2_with(at_builtin;refine bz U rfl _ _ rfl w.heap.size _ _ rfl (j.kp ((Kp.refl _).alloc _)) _ [Y] rfl (Rd.box _ _ _ Y rfl) (by rw[HN.out];simp;omega) (a.alloc _).size ?_;intro v' w2 l H _)
      rw[HY.out] at l;have B:Kp w w2:=Kp.grown (a.alloc _) H L.out;clear H j a;go_roundw
      case rel=>exact⟨k+1,_,by omega,by go_num,rfl,by rw[y.out];exact l,B⟩
      case measure=>simp[intOf];omega
    ·obtain rfl:k=4:=by omega
     have A:4*(i+1) - 16=4*i - 16+4:=by omega
     have y:=Lib.hid A;have ae:=Lib.hid (pI (eh ((i - 1) / 4)) 2 wr);by_cases q:i % 4=0
     ·have z:bc (eh ((i - 1) / 4)) 2=eh ((i+1 - 1) / 4):=by
       rw[show(i+1 - 1) / 4=(i - 1) / 4+1 by omega];rfl
      have J:=Lib.hid z;generalize bc (eh ((i - 1) / 4)) 2=R2 at *;generalize eh ((i - 1) / 4)=R1 at *;have s:(((i % 4:Nat):Int)==0)=true:=by rw[q];rfl
      obtain⟨im,o⟩:∃ m,i % 4=m:=⟨_,rfl⟩;rw[o] at t d s;clear q o z A;go_wp2_with(go_at_call 228;refine ae.out.mono ?_;rintro _ _ ⟨rfl,rfl⟩)
      go_roundw
      case rel=>exact⟨i+1,_,by omega,by omega,by go_num,rfl,by rw[J.out],by rw[y.out];exact j,a⟩
      case measure=>simp[intOf];omega
     ·have z:eh ((i - 1) / 4)=eh ((i+1 - 1) / 4):=by rw[show(i+1 - 1) / 4=(i - 1) / 4 by omega]
      have J:=Lib.hid z;generalize eh ((i - 1) / 4)=R1 at *;have s:¬((i % 4:Nat):Int)=0:=by omega
      have I:(((i % 4:Nat):Int)==0)=false:=Jd.2 s;obtain⟨im,o⟩:∃ m,i % 4=m:=⟨_,rfl⟩;rw[o] at t d s I;clear q o z A;go_wp2_with fail;go_roundw
      case rel=>exact⟨i+1,_,by omega,by omega,by go_num,rfl,by rw[J.out],by rw[y.out];exact j,a⟩
      case measure=>simp[intOf];omega
  ·obtain rfl:i=44:=by omega
   have ab:Ow 5 wr w.heap.size x K:=by rw[<-af.out];exact j
   clear j;go_wp2_with fail;go_ret;exact⟨⟨_,rfl,ab⟩,a⟩
theorem EG (i:Nat):p3B i ^^^ bc (p3B i) 2=p3B (i+1):=by
 rw[xR,show(3:UInt8)=1 ^^^ 2 by decide,rm,vu]
def eB:List UInt8:=tab 255 p3B
theorem kC:eB.length=255:=fi _ _
theorem EH (i:Nat)(h:i<255):eB[i]?=some (p3B i):=by simp[eB,tab,h]
def bD (l:List UInt8):Array Value:=(Lib.byteCells l).toArray
theorem jr (l:List UInt8):(bD l).size=l.length:=by simp[bD,cG]
theorem EI (l:List UInt8)(i:Nat)(h:i<l.length):(bD l)[i]?=some (.int .u8 ((l.getD i 0).toNat:Int)):=by
 simp[bD,Lib.byteCells,h]
theorem By.new (T:TypeId)(w:World)(l:List UInt8):By T (w.alloc (.cells (bD l) T)) w.heap.size l:=heap_alloc_new w _
theorem EJ:∀ w,(zeroValue 282).run prog w=.ok (.agg (bD (List.replicate 255 0))) w:=(zero_of_info (n:=255) (by kernel_rfl)).1
theorem EK:∀ w,(zeroValue 283).run prog w=.ok (.agg (bD (List.replicate 256 0))) w:=(zero_of_info (n:=256) (by kernel_rfl)).1
theorem EM:∃ a,prog.info? 5=some a/\a.size=1:=by
 have h:(prog.info? 5).map (·.size)=some 1:=by kernel_rfl
 cases hq:prog.info? 5 with
 | none=>rw[hq] at h;cases h
 | some a=>rw[hq] at h;exact⟨a,rfl,by simpa using h⟩
section
variable {P : Program}
theorem pO (i:P.underlying c=some (.array n e))(m:(P.info? c).map (·.size)=some n){rest:List Oper}(d:o.guard=none)(x:Operand)(j:o.op=.load c x)
  (g:Nat) (l:List UInt8) (f:a.eval x=.pointer (some ⟨g,0,none⟩)) (h:By T w g l) (k:l.length=n)
  (p:wpList P b Q rest (a.put o.dst (.agg (bD l))) w):wpList P b Q (o :: rest) a w:=
 wpList_load_row d c x j g f T (bD l) (0,0) _ h i rfl (by rw[m,jr,k]) p
theorem EN (l:List UInt8):(bD l).all (·.oneCell')=true:=by
 rw[Lo];intro v a;simp only[bD,Lib.byteCells,List.mem_toArray,JO] at a;obtain⟨x,_,rfl⟩:=a;rfl
theorem By.setRow {l:List UInt8}(h:By T w g l)(m:List UInt8):By T (w.setRow g (bD m)) g m:=by
 unfold By at h ⊢;obtain⟨a,b⟩:=IX.1 h;simp[World.setRow,a,Lu,b,bD]
theorem sy (p:(P.info? c).map (·.size)=some n){rest:List Oper}(d:o.guard=none)(q:o.dst=none)(x y:Operand)(j:o.op=.store c x y)
  (g:Nat) (l m:List UInt8) (i:a.eval x=.pointer (some ⟨g,0,none⟩)) (f:a.eval y=.agg (bD m)) (h:By T w g l) (k:l.length=n) (e:m.length=n)
  (r:∀ W,By T W g m->But g w W->wpList P b Q rest a W):wpList P b Q (o :: rest) a w:=
 wpList_store_row d c x y j g (bD m) i f T (bD l) h (by rw[p,jr,e]) (by rw[jr,jr,k,e]) (EN m) (by rw[q];exact r _ (h.setRow m) (But.setRow g w _))
end
theorem EO (w:World):Calls prog 238 #[] w λe w'=>(∃ g,e=.returned (.pointer (some ⟨g,0,none⟩))/\By 283 w' g fL/\w.heap.size<=g)/\Kp w w':=by
 have z1:=EJ;have z2:=EK;have P0:By 282 (w.alloc (.cells (bD (List.replicate 255 0)) 282)) w.heap.size (aG (List.replicate 255 0) eB 0):=by
  rw[show aG (List.replicate 255 (0:UInt8)) eB 0=List.replicate 255 0 by simp[aG]];exact By.new _ w _
 have HN:Hid (∀ i,i<255->(aG (List.replicate 255 0) eB i).set i (p3B i)=aG (List.replicate 255 0) eB (i+1)):=λi r=>
  gX _ _ i (by rw[kC,JT]) (by rw[JT];exact r) _ (EH i r)
 have HL:Hid (∀ i,i<=255->(aG (List.replicate 255 0) eB i).length=255):=λi r=>by
  rw[fR _ _ i (by rw[kC,JT]) (by rw[JT];exact r),JT]
 have HA:Hid (aG (List.replicate 255 0) eB 255=eB):=jA _ _ (by rw[kC,JT]);obtain⟨Z,B⟩:∃ Z,bD (List.replicate 255 (0:UInt8))=Z:=⟨_,rfl⟩;obtain⟨Y,s⟩:∃ Y,bD (List.replicate 256 (0:UInt8))=Y:=⟨_,rfl⟩;have ae:Z.size=255:=by rw[<-B,jr];rfl
 have af:Y.size=256:=by rw[<-s,jr];rfl
 rw[B] at z1 P0;rw[s] at z2;generalize hM:aG (List.replicate 255 0) eB=M at *;have HY:=Lib.hid s;clear B hM s;go_enter func238,ntmps238;go_wp2_with fail;go_loopw[2,7] (λx p wr=>∃ i:Nat,i<=255/\p=.int .i64 i/\x=.int .u8 ((p3B i).toNat:Int)/\By 282 wr w.heap.size (M i)/\Kp w wr/\w.heap.size<wr.heap.size) (λ_ p _=>255 - (intOf p).toNat)
 case atStart=>exact⟨0,by omega,rfl,rfl,P0,(Kp.refl _).alloc _,by simp⟩
 case round=>
  clear P0;obtain⟨i,r,rfl,rfl,d,G,hs⟩:=hrel;by_cases b:i<255
  ·have hq:(i:Int)<255:=by omega
   have hn:=HN.out i b;have hc:=d.cell i (by rw[HL.out i r];exact b);have hf:=d.frozen i;have hd:=lT (p3B i) (wr.setCell ⟨w.heap.size,i,none⟩ (.int .u8 ((p3B i).toNat:Int)));have hx:=bV (p3B i) (bc (p3B i) 2);rw[EG] at hx;have o:=d.set i (p3B i) hn;have P:=Below.setCell G (p:=⟨w.heap.size,i,none⟩) (by simp) (.int .u8 ((p3B i).toNat:Int));have K:w.heap.size<(wr.setCell ⟨w.heap.size,i,none⟩ (.int .u8 ((p3B i).toNat:Int))).heap.size:=by simpa using hs
   obtain⟨V,T⟩:∃ V,p3B (i+1)=V:=⟨_,rfl⟩;rw[T] at hx;have HV:=Lib.hid T;clear T;generalize bc (p3B i) 2=D at *;generalize p3B i=U at *;generalize E:wr.setCell ⟨w.heap.size,i,none⟩ (.int .u8 (U.toNat:Int))=W at *;have HW:=Lib.hid E;clear hn E;go_wp2_with(go_at_call 240;rw[HW.out];refine hd.mono ?_;rintro _ _ ⟨rfl,rfl⟩)
   go_roundw
   case rel=>exact⟨i+1,by omega,by go_num,by rw[HV.out],o,P,K⟩
   case measure=>simp[intOf];omega
  ·obtain rfl:i=255:=by omega
   rw[HA.out] at d;obtain⟨a,A⟩:∃ a,wr.heap.size=a:=⟨_,rfl⟩;have F:By 283 (wr.alloc (.cells Y 283)) a (List.replicate 256 0):=by
    rw[<-HY.out,<-A];exact By.new _ wr _
   have P1:=d.kp ((Kp.refl wr).alloc (.cells Y 283));have k1:Kp w (wr.alloc (.cells Y 283)):=G.alloc _;have L:a<(wr.alloc (.cells Y 283)).heap.size:=F.lt;have c0:=F.cell 0 (by decide);have f0:=F.frozen 0;have B1:=F.set 0 (cD 0) rfl;have u:=xV 0 (wr.alloc (.cells Y 283));have I:=Below.setCell k1 (p:=⟨a,0,none⟩) (by show w.heap.size<=a;omega) (.int .u8 ((cD 0).toNat:Int));have H:By 282 ((wr.alloc (.cells Y 283)).setCell ⟨a,0,none⟩ (.int .u8 ((cD 0).toNat:Int))) w.heap.size eB:=
    (Below.heap_setCell _ ⟨a,0,none⟩ _ w.heap.size (by show w.heap.size≠a;omega)).trans P1
   have HF:=Lib.hid (λk l h=>fA.next (k:=k) (l:=l) h);have H0:Hid (fA 0 ((List.replicate 256 (0:UInt8)).set 0 (cD 0))):=fA.begin;generalize (List.replicate 256 (0:UInt8)).set 0 (cD 0)=L0 at *;generalize E:wr.alloc (.cells Y 283)=W1 at *;have HW:=Lib.hid E;have N:w.heap.size≠a:=by omega
   have y:w.heap.size<=a:=by omega
   obtain⟨W2,C⟩:∃ W2,W1.setCell ⟨a,0,none⟩ (.int .u8 ((cD 0).toNat:Int))=W2:=⟨_,rfl⟩;rw[C] at B1 I H;go_wp2_with fail;refine u.mono ?_;rintro _ _ ⟨rfl,rfl⟩;clear z1 z2;go_wp2_with(refine pO underlying282 (by kernel_rfl) rfl (.tmp 1) rfl w.heap.size eB rfl H kC ?_)
   clear E HW P1 k1 L c0 f0 A F u C HN HL HA HY d G hs;go_loopw[21] (λp f=>∃ (k:Nat) (l:List UInt8),k<=255/\p=.int .i64 k/\Hid (fA k l)/\By 283 f a l/\By 282 f w.heap.size eB/\Kp w f) (λp _=>255 - (intOf p).toNat)
   case atStart=>exact⟨0,L0,by omega,rfl,H0,B1,H,I⟩
   case round=>
    clear B1 H I;obtain⟨f,rfl⟩:∃ f,f=wr:=⟨_,rfl⟩;obtain⟨k,l,G,rfl,q,t,d,j⟩:=hrel;by_cases b:k<255
    ·have v:=Lib.hid (HF.out k l q.out b)
     have O:l.length=256:=q.out.1;obtain⟨m,hm⟩:∃ m,(255 - k) % 255=m:=⟨_,rfl⟩;have c:m<255:=by omega
     have c2:=d.cell m (by rw[kC];exact c);rw[show eB.getD m 0=p3B m from iJ 255 p3B m c] at c2;have S:=lS k;have n:=gJ k;have ht:=xV (p3B m) f;rw[hm,<-S] at v;rw[<-S] at n;have c3:=t.cell (p3B k).toNat (by rw[O];exact n);have f3:=t.frozen (p3B k).toNat;have i1:IntKind.i64.wrap (255 - (k:Int))=255 - (k:Int):=IW _ (by omega);have i2:(255 - (k:Int)).tmod 255=(m:Int):=by rw[JF (by omega)];omega
     have i3:(255 - (k:Int)) % 255=(m:Int):=by omega
     have i4:(m:Int)<255:=by omega
     have i5:(k:Int)<255:=by omega
     have i6:((p3B k).toNat:Int)<256:=by omega
     have i8:0<=(m:Int):=by omega
     have ad:∀ W,(Instr.index 282 (.agg (bD eB)) (.int .i64 k)).run prog W=.ok (.int .u8 ((p3B k).toNat:Int)) W:=λW=>by
      obtain⟨ie,Q,J⟩:=EM;have hg:=EI eB k (by rw[kC];exact b);rw[show eB.getD k 0=p3B k from iJ 255 p3B k b] at hg;exact qS W 282 5 255 ie _ underlying282 Q J underlying5 rfl _ (by rw[jr,kC]) k b _ hg
     have ab:=t.set (p3B k).toNat (cD (p3B m)) rfl;have o:By 282 (f.setCell ⟨a,(p3B k).toNat,none⟩ (.int .u8 ((cD (p3B m)).toNat:Int))) w.heap.size eB:=(Below.heap_setCell f ⟨a,_,none⟩ _ w.heap.size N).trans d;have z:=Below.setCell j (p:=⟨a,(p3B k).toNat,none⟩) y (.int .u8 ((cD (p3B m)).toNat:Int));clear hm S n;generalize B:cD (p3B m)=Z at *;generalize s:p3B m=Y at *;generalize R:p3B k=X at *;generalize aa:l.set X.toNat Z=l2 at *;clear B s R aa d t j;go_wp2_with(go_at_call 263;refine ht.mono ?_;rintro _ _ ⟨rfl,rfl⟩)
     go_roundw
     case rel=>exact⟨k+1,l2,by omega,by go_num,v,ab,o,z⟩
     case measure=>simp[intOf];omega
    ·obtain rfl:k=255:=by omega
     have hl:=q.out.all;rw[hl] at t;go_wp2_with fail;go_ret;exact⟨⟨_,rfl,t,y⟩,j⟩
