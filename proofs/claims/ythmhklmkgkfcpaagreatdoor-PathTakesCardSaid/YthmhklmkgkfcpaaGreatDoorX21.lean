import Derived.Test.YthmhklmkgkfcpaaGreatDoorX20
set_option linter.all false
set_option maxHeartbeats 8000000
set_option maxRecDepth 100000
namespace Go.Proofs.YthmhklmkgkfcpaaGreatDoor
open Go.Proofs.Tryz Go.RowKit
variable {A B w w0:World}{H P U:Nat->Value}{N c g u:Nat}{Y:Nat->Prop}{a b v:Value}{f l lb:List UInt8}{s:List Nod × List UInt8}
theorem ti {n:Int}(h:0<=n/\n<=65535):fy n 2=be 2 n.toNat:=by
 unfold fy;rw[if_pos]
 ·rfl
 ·unfold eQ
  refine⟨by omega,by omega,by omega,?_⟩;show n<65536
  omega
theorem RL.row2 (w:World)(e:TypeId){c:List UInt8}(g:Rd w a c)(f:Rd w b lb):RL (w.alloc (.cells #[a,b] e)) (.slice (some ⟨w.heap.size,0,none⟩) 2 2) [c,lb]:=
 RL.cons (us:=[b]) (ls:=[lb]) (LJ w #[a,b] 2 (JO _) (by unfold maxLen;omega) rfl) (g.kp ((NQ _).alloc _)) rfl (λi d=>by
  match i,d with
  | 0,_=>exact f.kp ((NQ _).alloc _))
theorem RL.row3 (w:World)(e:TypeId){c:Value}{d:List UInt8}(k:Rd w a f)(j:Rd w b lb)(h:Rd w c d):RL (w.alloc (.cells #[a,b,c] e)) (.slice (some ⟨w.heap.size,0,none⟩) 3 3) [f,lb,d]:=
 RL.cons (us:=[b,c]) (ls:=[lb,d]) (LJ w #[a,b,c] 3 (JO _) (by unfold maxLen;omega) rfl) (k.kp ((NQ _).alloc _)) rfl (λi g=>by
  match i,g with
  | 0,_=>exact j.kp ((NQ _).alloc _)
  | 1,_=>exact h.kp ((NQ _).alloc _))
theorem RL.row4 (w:World)(e:TypeId){c d:Value}{h g:List UInt8}(n:Rd w a h)(m:Rd w b lb)(l:Rd w c g)(k:Rd w d f):RL (w.alloc (.cells #[a,b,c,d] e)) (.slice (some ⟨w.heap.size,0,none⟩) 4 4) [h,lb,g,f]:=
 RL.cons (us:=[b,c,d]) (ls:=[lb,g,f]) (LJ w #[a,b,c,d] 4 (JO _) (by unfold maxLen;omega) rfl) (n.kp ((NQ _).alloc _)) rfl (λi j=>by
  match i,j with
  | 0,_=>exact m.kp ((NQ _).alloc _)
  | 1,_=>exact l.kp ((NQ _).alloc _)
  | 2,_=>exact k.kp ((NQ _).alloc _))
theorem bz (h:Rd w v l):∃ a n c,v=.slice a n c:=by
 obtain⟨a,c,e,_⟩:=h.shape;exact⟨_,_,_,e⟩
theorem qD (n k:Int)(w:World)(b:-9223372036854775808<=n/\n<=9223372036854775807):
  Calls prog 209 #[.int .i64 n,.int .i64 k] w λe w'=>(∃ r,e=.returned r/\Ow 5 w' w.heap.size r (fy n k))/\Kp w w':=by
 have c:=JE (kr n k w b);clear b;go_enter func209,ntmps209;go_wp2_with fail;refine c.out.mono ?_;rintro _ f ⟨r,rfl,a,d⟩;obtain⟨i,g,h,rfl⟩:=bz a.rd;clear c;go_wp2_with fail;go_ret;exact⟨⟨_,rfl,a⟩,d⟩
theorem jV (v:Value)(l:List UInt8)(w:World)(h:Rd w v l):
  Calls prog 180 #[v] w λe w'=>(∃ r,e=.returned r/\Ow 5 w' w.heap.size r (aO l))/\Kp w w':=by
 have d:=JE (rK v l w h);obtain⟨a,c,rfl,_,_⟩:=h.shape;clear h;go_enter func180,ntmps180;go_wp2_with fail;refine d.out.mono ?_;rintro _ g ⟨r,rfl,b,f⟩;obtain⟨k,i,j,rfl⟩:=bz b.rd;clear d;go_wp2_with fail;go_ret;exact⟨⟨_,rfl,b⟩,f⟩
theorem Hb (v:Value)(b:List Int)(w:World)(z:RI w v b)(p:∀ i∈b,0<=i/\i<=65535)(A:b.length<=100):
  Calls prog 244 #[v] w λe w'=>(∃ r,e=.returned r/\Ow 5 w' w.heap.size r (unB b))/\Kp w w':=by
 have U:=aj;have u:=JE z;obtain⟨a,c,rfl,_,_⟩:=z.shape;obtain⟨f,j⟩:∃ f,b.length=f:=⟨_,rfl⟩;rw[j] at u A ⊢;have D:Hid (∀ (i:Nat) W,i<f->Calls prog 209 #[.int .i64 (b.getD i 0),.int .i64 2] W λe w'=>(∃ r,e=.returned r/\Ow 5 w' W.heap.size r (be 2 (b.getD i 0).toNat))/\Kp W w'):=λi W E=>by
  have I:b.getD i 0∈b:=by rw[JF,JG (by omega)];exact Ko _
  obtain⟨K,J⟩:=p _ I;rw[<-ti ⟨K,J⟩];exact qD _ _ W (by omega)
 have l:Hid (∀ i,i<f->unB (b.take (i+1))=unB (b.take i)++be 2 (b.getD i 0).toNat):=λi E=>by
  rw[<-uM];congr 1
  rw[Na,JF,JG (by omega)];rfl
 have m:Hid (b.take f=b):=by unfold Hid;rw[<-j];exact Kz
 have k:Hid (∀ i,(unB (b.take i)).length<=200):=λi=>by rw[mV,Ki];omega
 clear j p z;go_enter func244,ntmps244;go_wp2_with fail;go_loopw[3,8] (λv x wr=>∃ i:Nat,i<=f/\x=.int .i64 (i:Int)/\Ow 5 wr w.heap.size v (unB (b.take i))/\Kp w wr) (λ_ x _=>(f - (intOf x).toNat))
 case atStart=>exact⟨0,JW _,rfl,by rw[LZ];exact NR _ _ _,NQ _⟩
 case round=>
  obtain⟨i,E,rfl,n,d⟩:=hrel;by_cases g:i<f
  ·obtain⟨Z,S,rfl,_,s⟩:=(u.out.kp d).at i g
   have M:=s i g;have Y:IntKind.i64.wrap ((i:Int)+1)=(i:Int)+1:=JI _ (by omega);have V:(i:Int)<(f:Int):=by omega
   have C:=JE (D.out i wr g);have h:=JE (l.out i g);have F:=JE d;have o:=JE n;have q:=k.out i;generalize b.getD i 0=X at *;obtain⟨B,t⟩:∃ B,unB (b.take i)=B:=⟨_,rfl⟩;rw[t] at o h q;clear s d n D l t k m u;go_wp2_with fail;refine C.out.mono ?_;rintro _ P ⟨⟨R,rfl,H⟩,y⟩;go_wp2_with(at_builtin;refine bw U rfl _ _ rfl w.heap.size _ B rfl (o.out.kp y) _ _ rfl H.rd (by rw[bq];omega) (F.out.trans y).size ?_;intro Q O G L _;have N:=JE (NS (F.out.trans y) L o.out.own_ge))
   go_roundw
   case rel=>exact⟨i+1,by omega,by go_num,by rw[h.out];exact G,N.out⟩
   case measure=>simp[intOf];omega
  ·obtain rfl:i=f:=by omega
   rw[m.out] at n;have q:¬(i:Int)<(i:Int):=by omega
   obtain⟨av,T,cv,rfl⟩:=bz n.rd;have o:=JE (JN n d);clear d n D l k m u;go_wp2_with fail;go_ret;exact⟨⟨_,rfl,o.out.1⟩,o.out.2⟩
theorem tj (x:UInt8)(v:Value)(ls:List (List UInt8))(w:World)(h:RL w v ls)(f:0<ls.flatten.length)(l:ls.flatten.length<=1900)(y:ls.length<=1000):
  Calls prog 179 #[.int .u8 (x.toNat:Int),v] w λe w'=>(∃ r,e=.returned r/\Ow 5 w' w.heap.size r (bJ ([x]++ls.flatten)))/\Kp w w':=by
 have U:=aj;have s:=JE (λW (z:Kp w W)=>lF v ls W (h.kp z) f (by omega) (by omega));obtain⟨a,c,rfl,_,_⟩:=h.shape;have q:=JE (NT w 5 w.heap.size 1 #[.int .u8 (x.toNat:Int)] [x] (JO _) rfl (by omega) rfl);have t:=JE (JN f l);clear h f l y;go_enter func179,ntmps179;go_wp2_with fail;refine(s.out _ ((NQ _).alloc _)).mono ?_;rintro _ B ⟨⟨C,rfl,j⟩,d⟩;have p:=JE (((NQ w).alloc (.cells #[.int .u8 (x.toNat:Int)] 5)).trans d);have b:=JE (q.out.kp d);clear d q s;go_wp2_with(at_builtin;refine bw U rfl _ _ rfl w.heap.size _ [x] rfl b.out _ _ rfl j.rd (by have:=t.out;simp only[Ka,Kf];omega) p.out.size ?_;intro u w2 i m _;have o:=JE (NS p.out m b.out.own_ge))
 refine(uZ u ([x]++ls.flatten) w2 i.rd (by have:=t.out;simp only[JQ,Ka,Kf];omega)).mono ?_;rintro _ A ⟨⟨E,D,rfl,g⟩,k⟩;have n:=JE (JN g (o.out.trans k));clear g k i m b j;go_wp2_with fail;go_ret;exact⟨⟨_,rfl,n.out.1.mono o.out.size⟩,n.out.2⟩
theorem yY (v:Value)(n:Nod)(w:World)(hv:NV w v n)(hn:el n):
  Calls prog 207 #[v] w λe w'=>(∃ r,e=.returned r/\Ow 5 w' w.heap.size r (cR n))/\Kp w w':=by
 obtain⟨p,aa,h,rfl,ip,iu,ih⟩:=hv;have o:=(ko hn).1;obtain⟨a,t,pub,M,d⟩:=n;obtain⟨hk,ae,L,A,z,U⟩:=hn;simp only at hk ae L A z U ip iu ih;obtain⟨I,C,G,rfl⟩:=bz ip;obtain⟨J,D,H,rfl⟩:=bz ih;obtain⟨Y,R,V,rfl⟩:=iu.sl;simp only[cj];obtain⟨u,F⟩:∃ u:Int->World,u=λa=>w.alloc (.cells #[.int .i64 a,.int .i64 t,.slice I C G,.slice Y R V,.slice J D H] 81):=⟨_,rfl⟩
 have l:Hid (∀ a,Kp w (u a)):=λa=>by rw[F];exact(NQ _).alloc _
 have s:Hid (∀ a,(u a).rangeAt w.heap.size 0 [.int .i64 a,.int .i64 t,.slice I C G,.slice Y R V,.slice J D H]):=λa=>by
  rw[F];intro j v hv;rw[cell_of_row _ _ (0+j) _ _ _ (heap_alloc_new w _)];simpa using hv
 have g:Hid (∀ a W,Kp (u a) W->W.cell? ⟨w.heap.size,0,none⟩=some (.int .i64 a)/\W.cell? ⟨w.heap.size,1,none⟩=some (.int .i64 t)/\W.cell? ⟨w.heap.size,2,none⟩=some (.slice I C G)/\W.cell? ⟨w.heap.size,3,none⟩=some (.slice Y R V)/\W.cell? ⟨w.heap.size,4,none⟩=some (.slice J D H)):=λa W k=>
  ⟨k.cell (s.out a 0 _ rfl),k.cell (s.out a 1 _ rfl),k.cell (s.out a 2 _ rfl),k.cell (s.out a 3 _ rfl),k.cell (s.out a 4 _ rfl)⟩
 have HP:Hid (∀ a W,Kp (u a) W->Calls prog 180 #[.slice I C G] W λe w'=>(∃ r,e=.returned r/\Ow 5 w' W.heap.size r (aO pub))/\Kp W w'):=λa W k=>jV _ pub W (ip.kp ((l.out a).trans k))
 have HH:Hid (∀ a W,Kp (u a) W->Calls prog 180 #[.slice J D H] W λe w'=>(∃ r,e=.returned r/\Ow 5 w' W.heap.size r (aO d))/\Kp W w'):=λa W k=>jV _ d W (ih.kp ((l.out a).trans k))
 have B:Hid (∀ a W,Kp (u a) W->Calls prog 244 #[.slice Y R V] W λe w'=>(∃ r,e=.returned r/\Ow 5 w' W.heap.size r (unB M))/\Kp W w'):=λa W k=>Hb _ M W (iu.kp ((l.out a).trans k)) (λi hi=>by have:=U i hi;omega) z
 have ab:Hid (∀ W,Calls prog 209 #[.int .i64 t,.int .i64 2] W λe w'=>(∃ r,e=.returned r/\Ow 5 w' W.heap.size r (be 2 t.toNat))/\Kp W w'):=λW=>by rw[<-ti ae];exact qD _ _ W (by omega)
 have f:Hid (∀ (a:Int) (b:UInt8) W,fy a 1=[b]->-9223372036854775808<=a/\a<=9223372036854775807->Calls prog 209 #[.int .i64 a,.int .i64 1] W λe w'=>(∃ r,e=.returned r/\Ow 5 w' W.heap.size r [b])/\Kp W w'):=λa b W e hb=>by rw[<-e];exact qD _ _ W hb
 have q:Hid (∀ a,w.alloc (.cells #[.int .i64 a,.int .i64 t,.slice I C G,.slice Y R V,.slice J D H] 81)=u a):=λa=>by rw[F]
 clear F s ip iu ih L A z U;rcases hk with rfl|rfl|rfl
 ·have g:=JE (g.out 0);have HW:=JE (q.out 0);have m:=JE (l.out 0)
  have f:=JE (λW=>f.out 0 0 W (by decide) (by omega));generalize u 0=WN at *;clear l HP HH B ab q;go_enter func207,ntmps207;go_wp2_with fail;rw[HW.out];have X:=(g.out _ (NQ _)).1;go_wp2_with fail;refine(f.out _).mono ?_;rintro _ w2 ⟨⟨r2,rfl,x⟩,y⟩;have K:=JE (JN x y);have X:=(g.out _ y).1;obtain⟨a2,n2,b2,rfl⟩:=bz x.rd;clear x y;go_wp2_with fail;go_ret;exact⟨⟨_,rfl,K.out.1.mono m.out.size⟩,m.out.trans K.out.2⟩
 ·have g:=JE (g.out 1);have HW:=JE (q.out 1);have m:=JE (l.out 1)
  have HP:=JE (HP.out 1);have HH:=JE (HH.out 1);have f:=JE (λW=>f.out 1 1 W (by decide) (by omega));have HE:Hid (cR ⟨1,t,pub,M,d⟩=[[1],be 2 t.toNat,aO pub,aO d].flatten):=by unfold Hid;simp[cR]
  rw[HE.out] at o ⊢;have ad:=JE o;generalize u 1=WN at *;clear l B q o;go_enter func207,ntmps207;go_wp2_with fail;rw[HW.out];have X:=(g.out _ (NQ _)).1;go_wp2_with fail;refine(f.out _).mono ?_;rintro _ w2 ⟨⟨r2,rfl,x⟩,y⟩;have K:=JE y;have O2:=JE x.rd;have X:=(g.out _ y).1;obtain⟨a2,n2,b2,rfl⟩:=bz x.rd;clear x y;go_wp2_with fail;have c:Hid (∀ W,Kp WN W->W.cell? ⟨w.heap.size,1,none⟩=some (.int .i64 t)/\W.cell? ⟨w.heap.size,2,none⟩=some (.slice I C G)/\W.cell? ⟨w.heap.size,4,none⟩=some (.slice J D H)):=λW k=>⟨(g.out W k).2.1,(g.out W k).2.2.1,(g.out W k).2.2.2.2⟩
  have S2:=JE (c.out _ K.out.drew);clear g HW f HE X;go_region_held3 (λW=>W.cell? ⟨w.heap.size,1,none⟩=some (.int .i64 t)/\W.cell? ⟨w.heap.size,2,none⟩=some (.slice I C G)/\W.cell? ⟨w.heap.size,4,none⟩=some (.slice J D H))
   (first|with_reducible exact S2.out|with_reducible exact S3.out|with_reducible exact S4.out|with_reducible exact S5.out|with_reducible exact S6.out|with_reducible exact c.out _ (K5.out.alloc _))
   (first
    | (go_at_call 168;refine(lF _ [[1],be 2 t.toNat,aO pub,aO d] _ (RL.row4 w5 24 (O2.out.kp D5.out.1) (Q.rd.kp D5.out.2.1) (P.rd.kp D5.out.2.2) O.rd) (by simp) (by have:=ad.out;omega) (by simp)).mono ?_;rintro _ w6 ⟨⟨r6,rfl,N⟩,S⟩;obtain⟨a6,n6,b6,rfl⟩:=bz N.rd;have K6:=JE ((K5.out.alloc _).trans S);have S6:=JE (c.out _ K6.out))
    | (go_at_call 180;refine(HH.out _ K4.out).mono ?_;rintro _ w5 ⟨⟨r5,rfl,O⟩,E⟩;obtain⟨a5,n5,b5,rfl⟩:=bz O.rd;have K5:=JE (K4.out.trans E);have S5:=JE (c.out _ K5.out);have D5:=JE (JN (D4.out.1.trans E) (JN (D4.out.2.trans E) E)))
    | (go_at_call 180;refine(HP.out _ K3.out).mono ?_;rintro _ w4 ⟨⟨r4,rfl,P⟩,T⟩;obtain⟨a4,n4,b4,rfl⟩:=bz P.rd;have K4:=JE (K3.out.trans T);have S4:=JE (c.out _ K4.out);have D4:=JE (JN (D3.out.trans T) T))
    | (go_at_call 209;refine(ab.out _).mono ?_;rintro _ w3 ⟨⟨r3,rfl,Q⟩,k3⟩;obtain⟨a3,n3,b3,rfl⟩:=bz Q.rd;have K3:=JE (K.out.drew.trans k3);have S3:=JE (c.out _ K3.out);have D3:=JE ((Kp.drew (NQ w2)).trans k3)))
  have Z:=JE (JN N (JN K5.out K6.out));clear S2 S3 S4 S5 S6 N O P Q S c;go_wp2_with fail;go_ret;exact⟨⟨_,rfl,Z.out.1.mono (Kd (m.out.trans Z.out.2.1).size (by simp))⟩,m.out.trans Z.out.2.2⟩
 ·have g:=JE (g.out 2);have HW:=JE (q.out 2);have m:=JE (l.out 2)
  have HP:=JE (HP.out 2);have HH:=JE (HH.out 2);have B:=JE (B.out 2);have f:=JE (λW=>f.out 2 2 W (by decide) (by omega));have HE:Hid (cR ⟨2,t,pub,M,d⟩=[[2],aO pub,aO d,aO (unB M)].flatten):=by unfold Hid;simp[cR]
  rw[HE.out] at o ⊢;have ad:=JE o;generalize u 2=WN at *;clear l q o ab;go_enter func207,ntmps207;go_wp2_with fail;rw[HW.out];have X:=(g.out _ (NQ _)).1;go_wp2_with fail;refine(f.out _).mono ?_;rintro _ w2 ⟨⟨r2,rfl,x⟩,y⟩;have K:=JE y;have O2:=JE x.rd;have X:=(g.out _ y).1;obtain⟨a2,n2,b2,rfl⟩:=bz x.rd;clear x y;go_wp2_with fail;have c:Hid (∀ W,Kp WN W->W.cell? ⟨w.heap.size,2,none⟩=some (.slice I C G)/\W.cell? ⟨w.heap.size,3,none⟩=some (.slice Y R V)/\W.cell? ⟨w.heap.size,4,none⟩=some (.slice J D H)):=λW k=>⟨(g.out W k).2.2.1,(g.out W k).2.2.2.1,(g.out W k).2.2.2.2⟩
  have S2:=JE (c.out _ K.out.drew);clear g HW f HE X;go_region_held3 (λW=>W.cell? ⟨w.heap.size,2,none⟩=some (.slice I C G)/\W.cell? ⟨w.heap.size,3,none⟩=some (.slice Y R V)/\W.cell? ⟨w.heap.size,4,none⟩=some (.slice J D H))
   (first|with_reducible exact S2.out|with_reducible exact S3.out|with_reducible exact S4.out|with_reducible exact S5.out|with_reducible exact S6.out|with_reducible exact S7.out|with_reducible exact c.out _ (K6.out.alloc _))
   (first
    | (go_at_call 168;refine(lF _ [[2],aO pub,aO d,aO (unB M)] _ (RL.row4 w6 24 (O2.out.kp D6.out.1) (Q.rd.kp D6.out.2.1) (P.rd.kp D6.out.2.2) N.rd) (by simp) (by have:=ad.out;omega) (by simp)).mono ?_;rintro _ w7 ⟨⟨r7,rfl,o7⟩,k7⟩;obtain⟨a7,n7,b7,rfl⟩:=bz o7.rd;have K7:=JE ((K6.out.alloc _).trans k7);have S7:=JE (c.out _ K7.out))
    | (go_at_call 180;refine(jV _ (unB M) w5 O.rd).mono ?_;rintro _ w6 ⟨⟨r6,rfl,N⟩,S⟩;obtain⟨a6,n6,b6,rfl⟩:=bz N.rd;have K6:=JE (K5.out.trans S);have S6:=JE (c.out _ K6.out);have D6:=JE (JN (D5.out.1.trans S) (JN (D5.out.2.1.trans S) (D5.out.2.2.trans S))))
    | (go_at_call 244;refine(B.out _ K4.out).mono ?_;rintro _ w5 ⟨⟨r5,rfl,O⟩,E⟩;obtain⟨a5,n5,b5,rfl⟩:=bz O.rd;have K5:=JE (K4.out.trans E);have S5:=JE (c.out _ K5.out);have D5:=JE (JN (D4.out.1.trans E) (JN (D4.out.2.trans E) E)))
    | (go_at_call 180;refine(HH.out _ K3.out).mono ?_;rintro _ w4 ⟨⟨r4,rfl,P⟩,T⟩;obtain⟨a4,n4,b4,rfl⟩:=bz P.rd;have K4:=JE (K3.out.trans T);have S4:=JE (c.out _ K4.out);have D4:=JE (JN (D3.out.trans T) T))
    | (go_at_call 180;refine(HP.out _ K.out.drew).mono ?_;rintro _ w3 ⟨⟨r3,rfl,Q⟩,k3⟩;obtain⟨a3,n3,b3,rfl⟩:=bz Q.rd;have K3:=JE (K.out.drew.trans k3);have S3:=JE (c.out _ K3.out);have D3:=JE ((Kp.drew (NQ w2)).trans k3)))
  have Z:=JE (JN o7 (JN K6.out K7.out));clear S2 S3 S4 S5 S6 S7 o7 N O P Q k7 c;go_wp2_with fail;go_ret;exact⟨⟨_,rfl,Z.out.1.mono (Kd (m.out.trans Z.out.2.1).size (by simp))⟩,m.out.trans Z.out.2.2⟩
section
open Go.Maps
theorem yZ:Keyed prog 3:=int_keyed underlying3
theorem Hc (w:World):(zeroValue 237).run prog w=.ok (.agg #[]) w:=by kernel_rfl
theorem Hd (n:Int)(w:World):(Instr.makeMap 236 (some (.int .i64 n))).run prog w=.ok (.map (some w.heap.size)) (w.alloc (.map #[] 0)):=by
 simp[Instr.makeMap,run_underlying underlying236,asInt,Result.andThen,newObj];rfl
def jy (g:List Int):DataW Unit:=setOf (.agg []) (g.map λi=>Lit.int .i64 (2*i))
theorem He (g:List Int)(x:Int):jy (g++[x])=(jy g).put (.int .i64 (2*x)) (.agg []):=by
 unfold jy;rw[LL,List.map_cons,List.map_nil,setOf_snoc]
theorem Hf (g:List Int)(x:Int):Maps.has (jy g) (.int .i64 x)=decide (x∈g.map (2*·)):=by
 unfold jy;rw[has_setOf]
 ·by_cases h:x∈g.map (2*·)
  ·rw[Ke h,Mv]
   obtain⟨i,a,rfl⟩:=KN.1 h;exact⟨_,KN.2 ⟨i,a,rfl⟩,by simp[Lit.sameKey]⟩
  ·rw[Kb h,List.any_eq_false]
   intro k b;obtain⟨i,a,rfl⟩:=KN.1 b;intro e;refine h (KN.2 ⟨i,a,?_⟩);simpa [Lit.sameKey] using e
 ·intro k b
  obtain⟨i,a,rfl⟩:=KN.1 b;trivial
def Cnt (w:World)(v:Value)(g:List Int):Prop:=
 ∃ b m n,v=.func (.func 210) #[] #[.pointer (some ⟨b,0,none⟩)]/\Bx w b 236 #[.map (some m)]/\w.ownsMap prog 3 (unitElem (H:=Unit)) m n (jy g)
theorem Cnt.kp {w':World}{g:List Int}(h:Cnt w v g)(k:Kp w w'):Cnt w' v g:=by
 obtain⟨b,m,n,e,d,c⟩:=h;exact⟨b,m,n,e,d.kp k,c.kept ⟨k.os,k.tape,k.output,k.size,λi a _=>k.block i a⟩ (row:=none) (by simp)⟩
theorem Hg (b m n:Nat)(g:List Int)(x:Int)(w:World)(d:Bx w b 236 #[.map (some m)])(c:w.ownsMap prog 3 (unitElem (H:=Unit)) m n (jy g))(k:-9223372036854775808<=x/\x<=9223372036854775807):
  Calls prog 210 #[.int .i64 x,.pointer (some ⟨b,0,none⟩)] w λe w'=>e=.returned (.bool (!decide (x∈g.map (2*·))))/\Kp w w':=by
 have f:=d.cell 0;simp only[JT,JS] at f;have a:Go.keyOf prog 3 (.int .i64 x)=some (.int .i64 x):=keyOf_int_mk underlying3 (Mf (by omega));have i:=JE (Hf g x);have j:=JE c;clear d c;go_enter func210,ntmps210;go_wp2_with(first
  | (at_lookup;refine wpList_lookup_own_unit _ rfl _ _ 236 rfl 3 237 yZ underlying236 (Hc _) m n _ rfl j.out _ _ rfl a ?_)
  | go_in)
 have h:Hid (Kp w (w.alloc (.cells #[] 237))):=(NQ _).alloc _;rw[i.out];go_ret;exact⟨rfl,h.out⟩
theorem Cnt.call {g:List Int}(h:Cnt w v g):
  ∃ b,v=.func (.func 210) #[] #[.pointer (some ⟨b,0,none⟩)]/\∀ (y:Int) (W:World),Kp w W->-9223372036854775808<=y/\y<=9223372036854775807 ->
   Calls prog 210 #[.int .i64 y,.pointer (some ⟨b,0,none⟩)] W λe w'=>e=.returned (.bool (!decide (y∈g.map (2*·))))/\Kp W w':=by
 obtain⟨b,m,n,e,f,d⟩:=h;exact⟨b,e,λy W k a=>Hg b m n g y W (f.kp k) (d.kept ⟨k.os,k.tape,k.output,k.size,λi c _=>k.block i c⟩ (row:=none) (by simp)) a⟩
theorem Hh (v:Value)(g:List Int)(w:World)(C:RI w v g)(O:g.length<=100000)(I:∀ i∈g,-1000000<=i/\i<=1000000):
  Calls prog 178 #[v] w λe w'=>(∃ r,e=.returned r/\Cnt w' r g)/\Kp w w':=by
 have D:=Hd;have B:=JE C;obtain⟨a,c,rfl,_,_⟩:=C.shape;obtain⟨h,m⟩:∃ h,g.length=h:=⟨_,rfl⟩;rw[m] at B O ⊢;clear C;go_enter func178,ntmps178;go_wp2_with fail;obtain⟨u,d⟩:∃ u,(w.alloc (.map #[] 0)).alloc (.cells #[.map (some w.heap.size)] 236)=u:=⟨_,rfl⟩;have t:Bx u (w.heap.size+1) 236 #[.map (some w.heap.size)]:=by
  rw[<-d];have:=Oa (w.alloc (.map #[] 0)) 236 #[.map (some w.heap.size)];rwa [JY] at this
 have n:u.ownsMap prog 3 (unitElem (H:=Unit)) w.heap.size 0 (jy (g.take 0)):=by
  rw[<-d];exact(World.ownsMap_made w prog 3 (unitElem (H:=Unit))).alloc _
 have q:Kp w u:=by rw[<-d];exact((NQ _).alloc _).alloc _
 rw[d];clear d D;have F:Hid (∀ i,i<h->g.take (i+1)=g.take i++[g.getD i 0]/\-1000000<=g.getD i 0/\g.getD i 0<=1000000):=λi Q=>by
  have o:g.getD i 0∈g:=by rw[JF,JG (by omega)];exact Ko _
  refine⟨?_,I _ o⟩;rw[Na,JF,JG (by omega)];rfl
 have y:Hid (g.take h=g):=by unfold Hid;rw[<-m];exact Kz
 clear I m;have V:=JE (JN t (JN n q));clear t n q;go_loopw[11] (λx wr=>∃ i:Nat,i<=h/\x=.int .i64 (i:Int)/\Bx wr (w.heap.size+1) 236 #[.map (some w.heap.size)]/\wr.ownsMap prog 3 (unitElem (H:=Unit)) w.heap.size i (jy (g.take i))/\Kp w wr) (λx _=>(h - (intOf x).toNat))
 case atStart=>exact⟨0,JW _,rfl,V.out⟩
 case round=>
  obtain⟨i,Q,rfl,A,o,f⟩:=hrel;have z:=JE (JN A (JN o f));by_cases l:i<h
  ·obtain⟨gu,Y,rfl,_,s⟩:=(B.out.kp f).at i l
   have T:=s i l;have U:=A.cell 0;simp only[JT,JS] at U;obtain⟨J,S,R⟩:=F.out i l;have i1:IntKind.i64.wrap ((i:Int)+1)=(i:Int)+1:=JI _ (by omega);have Z:(i:Int)<(h:Int):=by omega
   have E:=JE J;generalize g.getD i 0=X at *;have i2:IntKind.i64.wrap (2*X)=2*X:=JI _ (by omega);have p:Go.keyOf prog 3 (.int .i64 (2*X))=some (.int .i64 (2*X)):=keyOf_int_mk underlying3 (Mf (by omega));have M:i<maxLen:=by unfold maxLen;omega
   clear s f A o F B y J S R;go_wp2_with(at_mapUpdate;refine wpList_mapUpdate_own _ rfl _ _ _ 236 rfl 3 237 yZ underlying236 (unitElem (H:=Unit)) w.heap.size i _ rfl z.out.2.1 M _ _ _ rfl rfl p _ [] unitElem_mk ?_;intro W j b)
   go_roundw
   case rel=>exact⟨i+1,by omega,by go_num,z.out.1.grown b (by simp),by rw[E.out,He];exact j,Below.grown z.out.2.2 b z.out.2.2.size (λk P=>by cases P;exact JO _)⟩
   case measure=>simp[intOf];omega
  ·obtain rfl:i=h:=by omega
   have N:¬(i:Int)<(i:Int):=by omega
   clear A o f F B;go_wp2_with fail;go_ret;obtain⟨L,G,K⟩:=z.out;rw[y.out] at G;exact⟨⟨_,rfl,_,_,_,rfl,L,G⟩,K⟩
end
theorem Hi (l:List Int)(g:List Int)(i:Nat)(h:i<l.length):
  (l.take (i+1)).filter (λi=>decide (i∉g))=(l.take i).filter (λi=>decide (i∉g))++(if l.getD i 0∈g then [] else [l.getD i 0]):=by
 rw[Na,JG h,MC,JF,JG h];simp only[Option.toList_some,Mt];by_cases a:l[i]∈g
 ·rw[if_pos a];simp[a]
 ·rw[if_neg a];simp[a]
theorem tk (g:List Int)(i:Int):2*i∈g.map (2*·)↔i∈g:=by
 constructor
 ·intro h
  obtain⟨j,a,e⟩:=KN.1 h;have:j=i:=by omega
  exact this▸a
 ·exact λh=>KN.2 ⟨i,h,rfl⟩
theorem za (v vc:Value)(n:Nod)(x:Int)(g:List Int)(w:World)(hv:NV w v n)(hn:el n)(hc:Cnt w vc g)(hx:0<=x/\x<=1000000):
  Calls prog 208 #[v,.int .i64 x,vc] w λe w'=>(∃ r,e=.returned r/\NV w' r (if x∈g.map (2*·) then aX else ff n g))/\Kp w w':=by
 have S:=gx;obtain⟨cb,rfl,ay⟩:=hc.call;have B:=JE ay;obtain⟨p,aa,h,rfl,ip,iu,ih⟩:=hv;have O:=JE (JN ip (JN iu ih));obtain⟨Z,Q,V,rfl⟩:=bz ip;obtain⟨ah,R,X,rfl⟩:=bz ih;obtain⟨au,cu,rfl,pu,_⟩:=iu.shape;simp only[cj];have ad:=hn.un;have T:=hn.unl;obtain⟨E,t⟩:∃ E,(w.alloc (.cells #[.int .i64 n.kind,.int .i64 n.name,.slice Z Q V,.slice au n.un.length cu,.slice ah R X] 81)).alloc (.cells #[.int .i64 0,.int .i64 0,.slice none 0 0,.slice none 0 0,.slice none 0 0] 81)=E:=⟨_,rfl⟩;have G:=JE t;have aA:Bx E w.heap.size 81 #[.int .i64 n.kind,.int .i64 n.name,.slice Z Q V,.slice au n.un.length cu,.slice ah R X]:=by rw[<-t];exact(Oa _ _ _).kp ((NQ _).alloc _)
 have az:Bx E (w.heap.size+1) 81 #[.int .i64 0,.int .i64 0,.slice none 0 0,.slice none 0 0,.slice none 0 0]:=by
  rw[<-t];have:=Oa (w.alloc (.cells #[.int .i64 n.kind,.int .i64 n.name,.slice Z Q V,.slice au n.un.length cu,.slice ah R X] 81)) 81 #[.int .i64 0,.int .i64 0,.slice none 0 0,.slice none 0 0,.slice none 0 0];rwa [JY] at this
 have aq:Kp w E:=by rw[<-t];exact((NQ _).alloc _).alloc _
 have al:E.heap.size=w.heap.size+2:=by rw[<-t];simp
 have I:=JE aA;have P:=JE az;have HZ:=JE (JN aq al);clear t aA az aq al hc ay ip ih hn;by_cases o:x∈g.map (2*·)
 ·rw[if_pos o]
  have f:=JE (B.out x E HZ.out.1 (by omega));rw[Ke o] at f;clear o hx B O iu ad T;go_enter func208,ntmps208;go_wp2_with fail;rw[G.out];refine f.out.mono ?_;rintro _ w2 ⟨rfl,k2⟩;have HB:=JE (P.out.kp k2);have aU:=JE (HZ.out.1.trans k2);have ag:=JE (HB.out.there);have an:=oP (n:=aX) (NIn.mk (bU w2) (RI.nil w2) (bU w2));clear k2 f I P G;go_wp2_with(refine xD rfl rfl 81 (.tmp 6) (.tmp 14) rfl (w.heap.size+1) 0 [.int .i64 0,.int .i64 0,.slice none 0 0,.slice none 0 0,.slice none 0 0] rfl rfl rfl an ag.out iZ ?_;intro W3 aC)
  have aL:Bx W3 (w.heap.size+1) 81 #[.int .i64 0,.int .i64 0,.slice none 0 0,.slice none 0 0,.slice none 0 0]:=by rw[aC];exact HB.out.fill #[.int .i64 0,.int .i64 0,.slice none 0 0,.slice none 0 0,.slice none 0 0] rfl
  have aJ:Kp w W3:=by rw[aC];exact aU.out.setCells (by omega) _ _
  refine bodyPost_ret (results_cell_row rfl _ _ (w.heap.size+1) _ _ (0,0) _ rfl aL underlying81 rfl iZ) rfl ?_;exact⟨⟨_,rfl,NV.blank _⟩,aJ⟩
 ·rw[if_neg o]
  have f:=JE (B.out x E HZ.out.1 (by omega));rw[Kb o] at f;obtain⟨J,L⟩:∃ J,n.un.length=J:=⟨_,rfl⟩;have H:=JE (Hi n.un g);obtain⟨F,hF⟩:∃ F:Nat->List Int,F=λi=>(n.un.take i).filter (λi=>decide (i∉g)):=⟨_,rfl⟩
  have aD:∀ i,(n.un.take i).filter (λi=>decide (i∉g))=F i:=λi=>by rw[hF]
  have aF:Hid (ff n g=⟨n.kind,n.name,n.pub,F J,n.hash⟩):=by
   unfold Hid ff;rw[hF,<-L];simp only[Kz]
  have aj:Hid (∀ i,(F i).length<=100):=λi=>by rw[hF];exact Kd (MB _ _) (by rw[Ki];omega)
  have ak:Hid (F 0=[]):=by rw[hF];rfl
  have af:Hid (∀ i,i<J->0<=n.un.getD i 0/\n.un.getD i 0<=1023):=λi hi=>by
   have hm:n.un.getD i 0∈n.un:=by rw[JF,JG (by omega)];exact Ko _
   exact ad _ hm
  have N:Hid (∀ W,Kp w W->RI W (.slice au J cu) n.un):=λW hW=>by rw[<-L];exact iu.kp hW
  rw[aF.out];rw[L] at G I H T pu O ⊢;simp only[aD] at H;have ai:=JE (tk g);clear o hx iu ad L hF aD aF;go_enter func208,ntmps208;go_wp2_with fail;rw[G.out];refine f.out.mono ?_;rintro _ w2 ⟨rfl,k2⟩;have K2:=JE k2;have c3:=(I.out.kp k2).cell 3;simp only[JT,JS,JU] at c3;clear k2 f G;go_wp2_with fail;clear c3;go_loopw[7,18] (λv x wr=>∃ i:Nat,i<=J/\x=.int .i64 (i:Int)/\OI 3 wr E.heap.size v (F i)/\Kp E wr) (λ_ x _=>(J - (intOf x).toNat))
  case atStart=>exact⟨0,JW _,rfl,by rw[ak.out];exact OI.nil _ _ _,K2.out⟩
  case round=>
   obtain⟨i,hi,rfl,ho,a⟩:=hrel;have KR:=JE a;have HO:=JE ho;by_cases d:i<J
   ·obtain⟨gu,ou,rfl,_,ax⟩:=(N.out _ (HZ.out.1.trans a)).at i d
    have a2:=ax i d;have i1:IntKind.i64.wrap ((i:Int)+1)=(i:Int)+1:=JI _ (by omega);have i3:(i:Int)<(J:Int):=by omega
    have l:=JE (H.out i (by have:=N.out _ (NQ _);obtain⟨_,_,e,_⟩:=this.shape;simp only[JR] at e;omega));have a0:=af.out i d;have aY:=aj.out i;generalize n.un.getD i 0=Y at *;have i2:IntKind.i64.wrap (2*Y)=2*Y:=JI _ (by omega);have q:=JE (B.out (2*Y) wr (HZ.out.1.trans a) (by omega));have K:=ai.out Y;clear ax a ho H N aj ak af B ai;by_cases hy:Y∈g
    ·rw[Ke (K.2 hy)] at q
     rw[if_pos hy,Lr] at l;clear hy K;go_wp2_with fail;refine q.out.mono ?_;rintro _ w3 ⟨rfl,k3⟩;have KE:=JE (JN (HO.out.kp k3) (KR.out.trans k3));clear k3 q HO KR;go_wp2_with fail;go_roundw
     case rel=>exact⟨i+1,by omega,by go_num,by rw[l.out];exact KE.out.1,KE.out.2⟩
     case measure=>simp[intOf];omega
    ·rw[Kb (λh=>hy (K.1 h))] at q
     rw[if_neg hy] at l;clear hy K;go_wp2_with fail;refine q.out.mono ?_;rintro _ w3 ⟨rfl,k3⟩;have KE:=JE (JN (HO.out.kp (k3.alloc (.cells #[.int .i64 Y] 3))) (KR.out.trans (k3.alloc (.cells #[.int .i64 Y] 3))));clear k3 q HO KR;go_wp2_with(at_builtin;refine gG S rfl _ _ rfl E.heap.size _ (F i) rfl KE.out.1 _ [Y] rfl (RI.lit w3 3 #[.int .i64 Y] [Y] 1 rfl (by omega) rfl).ri (by simp;omega) KE.out.2.size ?_;intro v9 w9 o9 g9;have K9:=JE (NS KE.out.2 g9 (λk hk=>(OI.lt KE.out.1 k hk).1)))
     go_roundw
     case rel=>exact⟨i+1,by omega,by go_num,by rw[l.out];exact o9,K9.out⟩
     case measure=>simp[intOf];omega
   ·obtain rfl:i=J:=by omega
    have a1:¬(i:Int)<(i:Int):=by omega
    obtain⟨A,m,u,rfl⟩:=ho.ri.sl;obtain⟨aH,aZ⟩:=HZ.out;have aG:=JE (I.out.kp a);have aV:=JE (P.out.kp a);have aS:=JE (aH.trans a);have ag:Hid (wr.there w.heap.size 3 1):=λj hj=>by have:=aG.out.there (3+j) (by simp;omega);rwa [Lf] at this
    clear a ho H N aj ak af B ai I P KR hi d K2;have U:∀ M,M=wr.setCells w.heap.size 3 [.slice A m u]->Bx M w.heap.size 81 #[.int .i64 n.kind,.int .i64 n.name,.slice Z Q V,.slice A m u,.slice ah R X]/\Bx M (w.heap.size+1) 81 #[.int .i64 0,.int .i64 0,.slice none 0 0,.slice none 0 0,.slice none 0 0]/\RI M (.slice A m u) (F i)/\(Kp w M/\∀ D,(Value.slice A m u).ownBlock=some D->w.heap.size+2<=D):=λM e=>by
     have aw:=gI wr w.heap.size 0 [.slice A m u] 3;have d:∀ D,(Value.slice A m u).ownBlock=some D->w.heap.size+2<=D:=λD C=>by have:=(OI.lt HO.out D C).1;omega
     rw[e];exact⟨aG.out.set 3 (.slice A m u),aV.out.grown aw (by simp),(HO.out.grown9 aw (λD C e=>by have:=d D C;simp at e;omega)).ri,aS.out.setCells (JO _) _ _,d⟩
    have aW:=JE U;clear U;go_wp2_with(first
     | (refine nX rfl rfl 34 (.tmp 32) (.tmp 31) rfl w.heap.size 3 (.slice A m u) rfl rfl rfl ag.out xC ?_;intro M aB;obtain⟨s,ab,am,ar,ao⟩:=aW.out M aB;have c0:=s.cell 0;have c1:=s.cell 1;have c2:=s.cell 2;have c3:=s.cell 3;have c4:=s.cell 4;simp only[JT,JS,JU] at c0 c1 c2 c3 c4;have aO:=JE ab;have aP:=JE am;have aT:=JE ar;have aR:=JE ao;have aE:=JE ab.there;clear aB s ab am ar ao)
     | (refine xD rfl rfl 81 (.tmp 6) (.tmp 33) rfl (w.heap.size+1) 0 [.int .i64 n.kind,.int .i64 n.name,.slice Z Q V,.slice A m u,.slice ah R X] rfl rfl rfl (by intro z hz;simp only[Lu,Mw,or_false] at hz;rcases hz with rfl|rfl|rfl|rfl|rfl <;> rfl) aE.out iZ ?_;intro W5 aN))
    subst aN;have aK:=aO.out.fill #[.int .i64 n.kind,.int .i64 n.name,.slice Z Q V,.slice A m u,.slice ah R X] rfl;have ae:=aT.out.setCells (b:=w.heap.size+1) (by omega) [.int .i64 n.kind,.int .i64 n.name,.slice Z Q V,.slice A m u,.slice ah R X] 0;have aM:aQ (.slice (some ⟨w.heap.size+1,0,none⟩) 0 0) (.slice A m u):=λD C y n c e h0 he=>by
     have h2:D=w.heap.size+1:=by cases C;rfl
     have h3:=aR.out y.block (by rw[e];rfl);omega
    have aI:=aP.out.grown9 (v:=.slice (some ⟨w.heap.size+1,0,none⟩) 0 0) (gI M (w.heap.size+1) 0 [.int .i64 n.kind,.int .i64 n.name,.slice Z Q V,.slice A m u,.slice ah R X] 0) aM;refine bodyPost_ret (results_cell_row rfl _ _ (w.heap.size+1) _ _ (0,0) _ rfl aK underlying81 rfl iZ) rfl ?_;exact⟨⟨_,rfl,⟨_,_,_,rfl,⟨O.out.1.kp ae,aI,O.out.2.2.kp ae⟩⟩⟩,ae⟩
theorem Hj {n:Nod}(g:List Int)(h:n.kind≠2):cR (ff n g)=cR n:=by
 unfold cR ff;simp only[h,if_false]
theorem Hk (L y:Value)(t:List Nod)(g:List Int)(K q:Nat)(w:World)(k:bl t K)(Q:NL w L t)(E:Cnt w y g)(d:Tab w)(D:q<2 ^ K):
  Calls prog 176 #[L,.int .i64 ((nd 0 q:Nat):Int),y] w λe w'=>(∃ r,e=.returned r/\Ow 5 w' w.heap.size r (bW t g 0 q))/\Kp w w':=by
 obtain⟨Z,x2⟩:=k.lt (j:=0) (JW _) (by simpa using D);have hk:=bP k.le;obtain⟨b,ab,c,p,aa,h,rfl,a⟩:=Q.node Z;obtain⟨c0,c1,c2,c3,c4⟩:=JN a.kind (JN a.name (JN a.pubC (JN a.unC a.hashC)));have o:nd 0 q=2*q:=eF q;have u:(ats t (nd 0 q)).kind≠2:=λe=>by have:=k.par _ e;omega
 have R:cR (if ((nd 0 q:Nat):Int)∈g.map (2*·) then aX else ff (ats t (nd 0 q)) g)=cR (if (q:Int)∈g then aX else ats t (nd 0 q)):=by
  have e:((nd 0 q:Nat):Int)=2*(q:Int):=by omega
  rw[e];by_cases x:(q:Int)∈g
  ·rw[if_pos ((tk g _).2 x),if_pos x]
  ·rw[if_neg (λh=>x ((tk g _).1 h)),if_neg x,Hj g u]
 have i:el (if ((nd 0 q:Nat):Int)∈g.map (2*·) then aX else ff (ats t (nd 0 q)) g):=by
  split
  ·exact el.blank
  ·exact(k.node _).less g
 have n:=JE (za (.agg (cj (ats t (nd 0 q)) p aa h).toArray) y (ats t (nd 0 q)) ((nd 0 q:Nat):Int) g w ⟨p,aa,h,rfl,a.2⟩ (k.node _) E (by omega));have HD:Hid (bW t g 0 q=bJ ([1]++[be 2 q,cR (if ((nd 0 q:Nat):Int)∈g.map (2*·) then aX else ff (ats t (nd 0 q)) g)].flatten)):=by unfold Hid;rw[R];simp[bW]
 rw[HD.out];have s:=(ko i).1;generalize (if ((nd 0 q:Nat):Int)∈g.map (2*·) then aX else ff (ats t (nd 0 q)) g)=m9 at *;have F:=JE i;have G:=JE s;obtain⟨_,J,I⟩:=ec k.le (JW K) (show q<2 ^ (K - 0) by simpa using D);have v:=fw J I;have l:=JE (λW (hW:Kp w W)=>lk ((nd 0 q:Nat):Int) W (d.kp hW));rw[v] at l;have f:Hid (∀ W,Calls prog 209 #[.int .i64 (q:Int),.int .i64 2] W λe w'=>(∃ r,e=.returned r/\Ow 5 w' W.heap.size r (be 2 q))/\Kp W w'):=λW=>by
  have:=qD (q:Int) 2 W (by omega);rwa [ti (by omega),JX] at this
 have e2:((nd 0 q:Nat):Int).tdiv 2=(q:Int):=by rw[o,Kx (by omega)];omega
 have e3:IntKind.i64.wrap (q:Int)=(q:Int):=JI _ (by omega);have e4:((nd 0 q:Nat):Int)<(t.length:Int):=by omega
 have H:=JE a.2;obtain⟨ap,np,cp,rfl⟩:=bz a.2.pub;obtain⟨au,nu,cu,rfl⟩:=a.2.un.sl;obtain⟨ah,nh,ch,rfl⟩:=bz a.2.hash;obtain⟨cb,rfl,_⟩:=E.call;clear k Q E a o D R i u s J I v d H;simp only[cj] at n;generalize nd 0 q=X at *;generalize t.length=TL at *;generalize ats t X=m at *;go_enter func176,ntmps176;go_wp2_with fail;refine n.out.mono ?_;rintro _ w1 ⟨⟨r1,rfl,M⟩,P⟩;clear n c0 c1 c2 c3 c4;go_wp2_with fail;refine(yY r1 m9 w1 M F.out).mono ?_;rintro _ w2 ⟨⟨r2,rfl,B⟩,O⟩;have V:=JE (P.trans O);have S:=JE B.rd;obtain⟨a2,n2,b2,rfl⟩:=bz B.rd;clear M P O B;go_wp2_with fail;refine(l.out _ V.out).mono ?_;rintro _ _ ⟨rfl,rfl⟩;go_wp2_with fail;refine(f.out _).mono ?_;rintro _ w3 ⟨⟨r3,rfl,A⟩,C⟩;have Y:=JE (RL.row2 w3 24 A.rd (S.out.kp C));have U:=JE (V.out.trans (C.alloc (.cells #[r3,.slice a2 n2 b2] 24)));obtain⟨a3,n3,b3,rfl⟩:=bz A.rd;clear A C S f l;go_wp2_with fail;refine(tj 1 _ _ _ Y.out (by rw[LY,JQ,bq];omega) (by have:=G.out;simp only[LY,Ng,JQ,bq,Kf];omega) (by simp)).mono ?_;rintro _ w4 ⟨⟨r4,rfl,z⟩,N⟩;have T:=JE (JN z (U.out.trans N));obtain⟨a4,n4,b4,rfl⟩:=bz z.rd;clear z N Y;go_wp2_with fail;go_ret;exact⟨⟨_,rfl,T.out.1.mono U.out.size⟩,T.out.2⟩
theorem Hl (t:List Nod)(K j:Nat)(E:bl t K)(hj:j+1<=K)
  (IH:∀ (q:Nat) (w:World) (y k:Value) (g:List Int),NL w y t->Cnt w k g->Tab w->q<2 ^ (K - j)->Calls prog 176 #[y,.int .i64 ((nd j q:Nat):Int),k] w λe w'=>(∃ r,e=.returned r/\Ow 5 w' w.heap.size r (bW t g j q))/\Kp w w')
  (q:Nat) (w:World) (y k:Value) (g:List Int) (Q:NL w y t) (D:Cnt w k g) (a:Tab w) (R:q<2 ^ (K - (j+1))):
  Calls prog 176 #[y,.int .i64 ((nd (j+1) q:Nat):Int),k] w λe w'=>(∃ r,e=.returned r/\Ow 5 w' w.heap.size r (bW t g (j+1) q))/\Kp w w':=by
 obtain⟨x1,x2⟩:=E.lt hj R;obtain⟨b,af,c,p,aa,h,rfl,f⟩:=Q.node x1;obtain⟨c0,c1,c2,c3,c4⟩:=JN f.kind (JN f.name (JN f.pubC (JN f.unC f.hashC)));have B:=jz j q;have l:¬((nd (j+1) q:Nat):Int)∈g.map (2*·):=λh=>by
  obtain⟨i,_,e⟩:=KN.1 h;omega
 have n:=za (.agg (cj (ats t (nd (j+1) q)) p aa h).toArray) k (ats t (nd (j+1) q)) ((nd (j+1) q:Nat):Int) g w ⟨p,aa,h,rfl,f.2⟩ (E.node _) D (by omega);rw[if_neg l] at n;have v:=JE n;have s:=JE ((E.node (nd (j+1) q)).less g);have ae:=JE (ko s.out).1;obtain⟨A,z⟩:=qC hj R;obtain⟨_,y1,Z⟩:=ec E.le hj R;obtain⟨f1,f2,f3⟩:=fK (j:=j) (q:=q) y1 Z;have C:=fw y1 Z;have u:=JE (λW (d:Kp w W)=>lk ((nd (j+1) q:Nat):Int) W (a.kp d));rw[C] at u;have ai:(((j+1:Nat):Int)==0)=false:=JL.2 (by omega);have ag:¬(((j+1:Nat):Int)=0):=by omega
 have L:Hid (∀ W,Kp w W->Calls prog 177 #[.int .i64 ((nd (j+1) q:Nat):Int),.int .i64 0] W λe w'=>e=.returned (.int .i64 ((nd j (2*q):Nat):Int))/\W=w'):=λW d=>by
  have:=sQ ((nd (j+1) q:Nat):Int) 0 W (a.kp d);rwa [if_neg (by decide),f2] at this
 have J:Hid (∀ W,Kp w W->Calls prog 177 #[.int .i64 ((nd (j+1) q:Nat):Int),.int .i64 1] W λe w'=>e=.returned (.int .i64 ((nd j (2*q+1):Nat):Int))/\W=w'):=λW d=>by
  have:=sQ ((nd (j+1) q:Nat):Int) 1 W (a.kp d);rwa [if_pos rfl,f3] at this
 have I:=JE (λW (d:Kp w W)=>IH (2*q) W _ k g (Q.kp d) (D.kp d) (a.kp d) A);have H:=JE (λW (d:Kp w W)=>IH (2*q+1) W _ k g (Q.kp d) (D.kp d) (a.kp d) z);have G:=JE (lD t g j (2*q));have F:=JE (lD t g j (2*q+1));have HD:Hid (bW t g (j+1) q=bJ ([2]++[cR (ff (ats t (nd (j+1) q)) g),aO (bW t g j (2*q)),aO (bW t g j (2*q+1))].flatten)):=by unfold Hid;simp[bW]
 rw[HD.out];have e4:((nd (j+1) q:Nat):Int)<(t.length:Int):=by omega
 obtain⟨ap,np,cp,rfl⟩:=bz f.2.pub;obtain⟨au,nu,cu,rfl⟩:=f.2.un.sl;obtain⟨ah,nh,ch,rfl⟩:=bz f.2.hash;obtain⟨cb,rfl,_⟩:=D.call;generalize bW t g j (2*q)=Y at *;generalize bW t g j (2*q+1)=V at *;clear E Q D f R l n B IH A z y1 Z f1 f2 f3 C a;simp only[cj] at v;generalize ff (ats t (nd (j+1) q)) g=m9 at *;generalize nd j (2*q)=XL at *;generalize nd j (2*q+1)=XR at *;generalize nd (j+1) q=X at *;generalize t.length=TL at *;generalize ats t X=m at *;generalize ((j+1:Nat):Int)=JJ at *;go_enter func176,ntmps176;go_wp2_with fail;refine v.out.mono ?_;rintro _ w1 ⟨⟨r1,rfl,o1⟩,A⟩;clear v c0 c1 c2 c3 c4;go_wp2_with fail;refine(yY r1 m9 w1 o1 s.out).mono ?_;rintro _ w2 ⟨⟨r2,rfl,o2⟩,z⟩;have U:=JE (A.trans z);have O2:=JE o2.rd;obtain⟨a2,n2,b2,rfl⟩:=bz o2.rd;clear o1 A z o2;go_wp2_with fail;refine(u.out _ U.out).mono ?_;rintro _ _ ⟨rfl,rfl⟩;go_wp2_with fail;refine(L.out _ U.out).mono ?_;rintro _ _ ⟨rfl,rfl⟩;go_wp2_with fail;refine(I.out _ U.out).mono ?_;rintro _ w3 ⟨⟨r3,rfl,o3⟩,k3⟩;have K3:=JE (U.out.trans k3);have o:=JE (JN (O2.out.kp k3) o3.rd);obtain⟨a3,n3,b3,rfl⟩:=bz o3.rd;clear o3 k3 O2 I L u;go_wp2_with fail;refine(J.out _ K3.out).mono ?_;rintro _ _ ⟨rfl,rfl⟩;go_wp2_with fail;refine(H.out _ K3.out).mono ?_;rintro _ w4 ⟨⟨r4,rfl,o4⟩,P⟩;have K4:=JE (K3.out.trans P);have T:=JE (JN (o.out.1.kp P) (JN (o.out.2.kp P) o4.rd));obtain⟨a4,n4,b4,rfl⟩:=bz o4.rd;clear o4 P o H J;go_wp2_with fail;refine(jV _ Y w4 T.out.2.1).mono ?_;rintro _ w5 ⟨⟨r5,rfl,o5⟩,O⟩;have K5:=JE (K4.out.trans O);have S:=JE (JN (T.out.1.kp O) (JN o5.rd (T.out.2.2.kp O)));obtain⟨a5,n5,b5,rfl⟩:=bz o5.rd;clear o5 O T;go_wp2_with fail;refine(jV _ V w5 S.out.2.2).mono ?_;rintro _ w6 ⟨⟨r6,rfl,o6⟩,N⟩;have HR:=JE (RL.row3 w6 24 (S.out.1.kp N) (S.out.2.1.kp N) o6.rd);obtain⟨a6,n6,b6,rfl⟩:=bz o6.rd;have K6:=JE (K5.out.trans (N.alloc (.cells #[.slice a2 n2 b2,.slice a5 n5 b5,.slice a6 n6 b6] 24)));have ad:=fo (x:=Y) (by have:=G.out;omega);have ab:=fo (x:=V) (by have:=F.out;omega);have M:Hid ([cR m9,aO Y,aO V].flatten.length<=1900/\0<[cR m9,aO Y,aO V].flatten.length):=by
  have h1:=ae.out;have h2:=(ko s.out).2;have h3:=G.out;have h4:=F.out;unfold Hid;simp only[LY,Ng,JQ,Kf];omega
 clear o6 N S ad ab;go_wp2_with fail;refine(tj 2 _ _ _ HR.out M.out.2 M.out.1 (by simp)).mono ?_;rintro _ w7 ⟨⟨r7,rfl,o7⟩,k7⟩;have KE:=JE (JN o7 (K6.out.trans k7));obtain⟨a7,n7,b7,rfl⟩:=bz o7.rd;clear o7 k7 HR;go_wp2_with fail;go_ret;exact⟨⟨_,rfl,KE.out.1.mono K6.out.size⟩,KE.out.2⟩
theorem zb (t:List Nod)(K:Nat)(hT:bl t K):∀ (j q:Nat) (w:World) (vt vc:Value) (g:List Int),j<=K->NL w vt t->Cnt w vc g->Tab w->q<2 ^ (K - j) ->
  Calls prog 176 #[vt,.int .i64 ((nd j q:Nat):Int),vc] w λe w'=>(∃ r,e=.returned r/\Ow 5 w' w.heap.size r (bW t g j q))/\Kp w w'
 | 0,q,w,vt,vc,g,_,ht,hc,hTab,hq=>Hk vt vc t g K q w hT ht hc hTab (by simpa using hq)
 | j+1,q,w,vt,vc,g,hj,ht,hc,hTab,hq=>Hl t K j hT hj (λq w vt vc g ht hc hTab hq=>zb t K hT j q w vt vc g (by omega) ht hc hTab hq) q w vt vc g ht hc hTab hq
theorem Hm (vt:Value)(t:List Nod)(K j q:Nat)(a:Int)(w:World)(J:bl t K)(S:NL w vt t)(k:Tab w)(U:j+1<=K)(T:q<2 ^ (K - (j+1)))(hs:a=0\/a=1):
  Calls prog 145 #[vt,.int .i64 ((nd (j+1) q:Nat):Int),.int .i64 a] w λe w'=>(∃ r,e=.returned r/\Ow 5 w' w.heap.size r (bJ ([3]++aO (ats t (nd (j+1) q)).pub++aO (ats t (nd (j+1) q)).hash++aO (bW t (ats t (nd (j+1) q)).un j (ep a q)))))/\Kp w w':=by
 obtain⟨x1,x2⟩:=J.lt U T;have ak:=JE S;obtain⟨b,aj,c,p,aa,h,rfl,n⟩:=S.node x1;obtain⟨c0,c1,c2,c3,c4⟩:=JN n.kind (JN n.name (JN n.pubC (JN n.unC n.hashC)));have d:=J.node (nd (j+1) q);obtain⟨k1,k2⟩:=qC U T;obtain⟨_,y1,y2⟩:=ec J.le U T;obtain⟨f1,f2,f3⟩:=fK (j:=j) (q:=q) y1 y2;have I:ep a q<2 ^ (K - j):=by unfold ep;split <;> assumption
 have P:Hid (∀ W,Kp w W->Calls prog 177 #[.int .i64 ((nd (j+1) q:Nat):Int),.int .i64 (1 - a)] W λe w'=>e=.returned (.int .i64 ((nd j (ep a q):Nat):Int))/\W=w'):=λW g=>by
  have:=sQ ((nd (j+1) q:Nat):Int) (1 - a) W (k.kp g);rcases hs with rfl|rfl
  ·rwa [if_pos (by decide),f3] at this
  ·rwa [if_neg (by decide),f2] at this
 have O:=JE (λW vc (g:Kp w W) (hc:Cnt W vc (ats t (nd (j+1) q)).un)=>zb t K J j (ep a q) W _ vc _ (by omega) (S.kp g) hc (k.kp g) I);have Q:=JE (λW v (hv:RI W v (ats t (nd (j+1) q)).un)=>Hh v _ W hv (by have:=d.unl;omega) (λi hi=>by have:=d.un i hi;omega));have l:=JE (lD t (ats t (nd (j+1) q)).un j (ep a q));have lp:=fo (x:=(ats t (nd (j+1) q)).pub) (by have:=d.pub;omega);have lh:=fo (x:=(ats t (nd (j+1) q)).hash) (by have:=d.hash;omega);have ab:=d.pub;have ad:=d.hash;have i1:IntKind.i64.wrap (1 - a)=1 - a:=JI _ (by omega);have e4:((nd (j+1) q:Nat):Int)<(t.length:Int):=by omega
 have A:=JE n.2;obtain⟨F,B,D,rfl⟩:=bz n.2.pub;obtain⟨M,H,L,rfl⟩:=n.2.un.sl;obtain⟨G,C,E,rfl⟩:=bz n.2.hash;have ae:Hid ((bJ ([3]++aO (ats t (nd (j+1) q)).pub++aO (ats t (nd (j+1) q)).hash++aO (bW t (ats t (nd (j+1) q)).un j (ep a q))))=bJ ([3]++[aO (ats t (nd (j+1) q)).pub,aO (ats t (nd (j+1) q)).hash,aO (bW t (ats t (nd (j+1) q)).un j (ep a q))].flatten)):=by unfold Hid;simp
 rw[ae.out];generalize bW t (ats t (nd (j+1) q)).un j (ep a q)=R at *;have lr:=fo (x:=R) (by have:=l.out;omega);have ag:Hid ((aO (ats t (nd (j+1) q)).pub).length<=42/\(aO (ats t (nd (j+1) q)).hash).length<=42/\(aO R).length<=40):=⟨by omega,by omega,by have:=l.out;omega⟩;have z:0<(aO R).length:=by
  unfold aO;rw[if_pos (by unfold iI fd;rw[l.out];decide)];rw[JQ,l.out];omega
 have af:=JE z;clear J S k n T k1 k2 y1 y2 f1 f2 f3 U I d lp lh ab ad lr z l;generalize nd j (ep a q)=XO at *;generalize nd (j+1) q=X at *;generalize t.length=TL at *;generalize ats t X=m at *;clear hs;obtain⟨o,s⟩:∃ o,w.alloc (.cells #[.int .i64 m.kind,.int .i64 m.name,.slice F B D,.slice M H L,.slice G C E] 81)=o:=⟨_,rfl⟩;have y:Hid (Bx o w.heap.size 81 #[.int .i64 m.kind,.int .i64 m.name,.slice F B D,.slice M H L,.slice G C E]):=by rw[<-s];exact Oa _ _ _
 have f:Hid (Kp w o):=by rw[<-s];exact(NQ _).alloc _
 have N:=JE s;clear s;go_enter func145,ntmps145;go_wp2_with fail;rw[N.out];have u:Hid (∀ W,Kp o W->W.cell? ⟨w.heap.size,2,none⟩=some (.slice F B D)/\W.cell? ⟨w.heap.size,3,none⟩=some (.slice M H L)/\W.cell? ⟨w.heap.size,4,none⟩=some (.slice G C E)):=λW g=>⟨(y.out.kp g).cell 2,(y.out.kp g).cell 3,(y.out.kp g).cell 4⟩
 have V:Hid (Kp o o.drew):=Kp.drew (NQ o);have bM:=JE (u.out _ V.out);clear y N c0 c1 c2 c3 c4;go_region_held3 (λW=>W.cell? ⟨w.heap.size,2,none⟩=some (.slice F B D)/\W.cell? ⟨w.heap.size,3,none⟩=some (.slice M H L)/\W.cell? ⟨w.heap.size,4,none⟩=some (.slice G C E))
  (first|with_reducible exact bM.out|with_reducible exact S3.out|with_reducible exact S4.out)
  (first
   | (go_at_call 176;refine(O.out _ _ (f.out.trans K3.out) o3).mono ?_;rintro _ w4 ⟨⟨r4,rfl,o4⟩,k4⟩;obtain⟨a4,n4,b4,rfl⟩:=bz o4.rd;have Z:=JE (K3.out.trans k4);have S4:=JE (u.out _ Z.out))
   | (go_at_call 178;refine(Q.out _ _ (A.out.un.kp (f.out.trans V.out))).mono ?_;rintro _ w3 ⟨⟨r3,rfl,o3⟩,k3⟩;obtain⟨cb,rfl,_⟩:=o3.call;have K3:=JE (V.out.trans k3);have S3:=JE (u.out _ K3.out))
   | (go_at_call 177;refine(P.out _ (f.out.trans V.out)).mono ?_;rintro _ _ ⟨rfl,rfl⟩))
 have HP:Hid (∀ W,Kp o W->Calls prog 180 #[.slice F B D] W λe w'=>(∃ r,e=.returned r/\Ow 5 w' W.heap.size r (aO m.pub))/\Kp W w'):=λW g=>jV _ m.pub W (A.out.pub.kp (f.out.trans g))
 have HH:Hid (∀ W,Kp o W->Calls prog 180 #[.slice G C E] W λe w'=>(∃ r,e=.returned r/\Ow 5 w' W.heap.size r (aO m.hash))/\Kp W w'):=λW g=>jV _ m.hash W (A.out.hash.kp (f.out.trans g))
 have O4:=JE o4.rd;have D4:Hid (Kp w4 w4.drew):=Kp.drew (NQ w4);have S5:=JE (u.out _ (Z.out.trans D4.out));clear bM S3 S4 O Q P o3 o4 k3 k4 K3;go_wp2_with fail;go_region_held3 (λW=>W.cell? ⟨w.heap.size,2,none⟩=some (.slice F B D)/\W.cell? ⟨w.heap.size,3,none⟩=some (.slice M H L)/\W.cell? ⟨w.heap.size,4,none⟩=some (.slice G C E))
  (first|with_reducible exact S5.out|with_reducible exact S6.out|with_reducible exact S7.out|with_reducible exact S8.out|with_reducible exact S9.out|with_reducible exact u.out _ (Y.out.alloc _))
  (first
   | (go_at_call 179;refine(tj 3 _ [aO m.pub,aO m.hash,aO R] _ (RL.row3 w8 24 (o6.rd.kp D8.out.1) (o7.rd.kp D8.out.2) o8.rd) (by have:=af.out;simp only[LY,Ng,JQ,Kf];omega) (by have:=ag.out;simp only[LY,Ng,JQ,Kf];omega) (by simp)).mono ?_;rintro _ w9 ⟨⟨r9,rfl,o9⟩,k9⟩;obtain⟨a9,n9,b9,rfl⟩:=bz o9.rd;have K9:=JE ((Y.out.alloc _).trans k9);have S9:=JE (u.out _ K9.out))
   | (go_at_call 180;refine(jV _ R _ (O4.out.kp D7.out)).mono ?_;rintro _ w8 ⟨⟨r8,rfl,o8⟩,k8⟩;obtain⟨a8,n8,b8,rfl⟩:=bz o8.rd;have Y:=JE (K7.out.trans k8);have S8:=JE (u.out _ Y.out);have D8:=JE (JN (ai.out.trans k8) k8))
   | (go_at_call 180;refine(HH.out _ K6.out).mono ?_;rintro _ w7 ⟨⟨r7,rfl,o7⟩,k7⟩;obtain⟨a7,n7,b7,rfl⟩:=bz o7.rd;have K7:=JE (K6.out.trans k7);have S7:=JE (u.out _ K7.out);have D7:=JE (D6.out.trans k7);have ai:=JE k7)
   | (go_at_call 180;refine(HP.out _ (Z.out.trans D4.out)).mono ?_;rintro _ w6 ⟨⟨r6,rfl,o6⟩,k6⟩;obtain⟨a6,n6,b6,rfl⟩:=bz o6.rd;have K6:=JE ((Z.out.trans D4.out).trans k6);have S6:=JE (u.out _ K6.out);have D6:=JE (D4.out.trans k6)))
 have KE:=JE (JN o9 (JN Y.out K9.out));clear S5 S6 S7 S8 S9 HP HH o6 o7 o8 o9 k9;go_wp2_with fail;go_ret;exact⟨⟨_,rfl,KE.out.1.mono (Kd (f.out.trans KE.out.2.1).size (by simp))⟩,f.out.trans KE.out.2.2⟩
theorem Hn (d:Value)(t:List Nod)(K X:Nat)(a:Int)(w:World)(c:bl t K)(i:NL w d t)(b:Tab w)(n:X<t.length)(g:(ats t X).kind=2)(l:a=0\/a=1):
  Calls prog 145 #[d,.int .i64 (X:Int),.int .i64 a] w λe w'=>(∃ r,e=.returned r/\Ow 5 w' w.heap.size r (er t (X:Int) a))/\Kp w w':=by
 have o:gL t (X:Int) a=0:=by
  unfold gL
  rw[if_pos ⟨by omega,by omega,by omega,by omega⟩,JX,if_pos g]
 have m:=c.par X g
 obtain⟨j,q,rfl,h,f⟩:=c.at n
 cases j with
 | zero=>rw[eF] at m;omega
 | succ j=>
  have e:er t ((nd (j+1) q:Nat):Int) a=bJ ([3]++aO (ats t (nd (j+1) q)).pub++aO (ats t (nd (j+1) q)).hash++aO (bW t (ats t (nd (j+1) q)).un j (ep a q))):=by
   have k:=ec c.le h f
   unfold er
   rw[if_pos o,JX]
   unfold pc
   rw[fV (j+1) q (by omega),kf (j+1) q (by omega),LR]
  rw[e]
  exact Hm d t K j q a w c i b h f l
attribute [local go_sem] Oper.semAt_some
structure fk (w0:World)(B6 B7 B10 g N c:Nat)(lf:Int)(s:List Nod × List UInt8)(Y:Nat->Prop)(A:World)(rt:Value)(P U H:Nat->Value):Prop where
 mk ::
 out:Boxed A B6 22 (.slice (some ⟨g,0,none⟩) N c)
 leaf:Boxed A B7 3 (.int .i64 lf)
 box:Boxed A B10 24 rt
 told:Rd A rt s.2
 tfree:br (λk=>Y k\/k=g\/k=B10) rt
 row:NX 81 3 A w0.heap.size (.slice (some ⟨g,0,none⟩) N c) s.1 P U H (λ_=>False)
 free:jg (λk=>Y k\/k=B10) s.1.length P U H
 kp:Kp w0 A
 ord:w0.heap.size<=g/\g<B6/\B6<B7/\B7<B10
def Hq (J:World->Prop)(A:World)(Z:Nat->Prop)(e:Exit)(B:World):Prop:=e=.normal/\J B/\aR Z A B
theorem fk.minds {v a:Nat}{r:Int}{q:Nat}(C:a<q):ed q (λY A=>∃ f P U H,fk w0 v u a g N c r s Y A f P U H):=by
 rintro Y p A B ⟨f,P,U,H,h⟩ o d n;obtain⟨z,y,x,w⟩:=h.ord;have e:∀ k,k<=a->¬Y k:=λk b t=>by have:=o k t;omega
 have m:li (λk=>Y k\/k=g\/k=a) (λk=>p k\/k=g\/k=a) A B:=λk b=>by
  rcases b with b|b
  ·exact(n k b).imp .inl id
  ·exact .inl (.inr b)
 have l:li (λk=>Y k\/k=a) (λk=>p k\/k=a) A B:=λk b=>by
  rcases b with b|b
  ·exact(n k b).imp .inl id
  ·exact .inl (.inr b)
 exact⟨f,P,U,H,⟨(d.block _ h.out.lt (e _ (by omega))).trans h.out,(d.block _ h.leaf.lt (e _ (by omega))).trans h.leaf,(d.block _ h.box.lt (e _ (by omega))).trans h.box,
  h.told.stepF d (h.tfree.mono λk=>.inl),h.tfree.grew h.told.inside m,h.row.stepF d (e _ (by omega)) (λj i=>⟨(h.free j i).1.mono λk=>.inl,(h.free j i).2.1.mono λk=>.inl,(h.free j i).2.2.mono λk=>.inl⟩),
  jg.grew h.row h.free l,Below.trans h.kp (d.below h.kp.size (λk b=>by have:=o k b;omega)),h.ord⟩⟩
theorem fk.rehash {m l f k:Nat}{i:Int}(h:fk w0 m l f g N c i s Y A a P U H)(j:k<s.1.length):
  fk w0 m l f g N c i (s.1.set k (dm (ats s.1 k) s.2),s.2) Y (A.setCell ⟨g,k*5+4,none⟩ a) a (upd P k (P k)) (upd U k (U k)) (upd H k a):=by
 obtain⟨n,q,p,o⟩:=h.ord;have d:∀ b,b≠g->(A.setCell ⟨g,k*5+4,none⟩ a).heap[b]?=A.heap[b]?:=λb d=>Below.heap_setCell A _ _ b d
 refine⟨(d _ (by omega)).trans h.out,(d _ (by omega)).trans h.leaf,(d _ (by omega)).trans h.box,h.told.stepF (Y:=λk=>k=g) ((NU _ A).setCell _ _ (.inr rfl)) (h.tfree.mono λk e=>.inr (.inl e)),h.tfree,
  h.row.rehash j h.told (h.tfree.mono λk e=>.inr (.inl e)),?_,h.kp.setNew n _,h.ord⟩
 rw[Km];exact h.free.upd (h.tfree.mono λk e=>e.imp id .inr) j
theorem fk.kpI {f e a:Nat}{d:Int}(h:fk w0 f e a g N c d s Y A b P U H)(k:Kp A B):fk w0 f e a g N c d s Y B b P U H:=
 ⟨(k.block _ h.out.lt).trans h.out,(k.block _ h.leaf.lt).trans h.leaf,(k.block _ h.box.lt).trans h.box,h.told.kp k,h.tfree,h.row.kp k,h.free,h.kp.trans k,h.ord⟩
theorem fk.tell {t a C:Nat}{o:Int}{r:Value}(h:fk w0 u t a g N c o s Y A v P U H)(k:Kp A B)(q:Ow 5 B C r l)(L:A.heap.size<=C)(z:∀ k,Y k->k<A.heap.size):
  fk w0 u t a g N c o (s.1,l) Y (B.setCell ⟨a,0,none⟩ r) r P U H:=by
 obtain⟨K,J,I,G⟩:=h.ord;have y:=h.box.lt;have d:=h.kpI k;have m:∀ b,b≠a->(B.setCell ⟨a,0,none⟩ r).heap[b]?=B.heap[b]?:=λb m=>Below.heap_setCell B _ _ b m
 have i:az (λk=>k=a) B (B.setCell ⟨a,0,none⟩ r):=(NU _ B).setCell _ _ (.inr rfl);have p:∀ x n c,r=.slice (some x) n c->A.heap.size<=x.block:=λx n c e=>by have:=q.own_ge x.block (by rw[e];rfl);omega
 refine⟨(m _ (by omega)).trans d.out,(m _ (by omega)).trans d.leaf,d.box.set r,q.rd.stepF i (λx n c e _ f=>by have:=p x n c e;omega),λx n c e _ f=>?_,d.row.stepF i (by omega) (λj w=>?_),h.free,d.kp.setNew (by omega) _,h.ord⟩
 ·have M:=p x n c e
  rcases f with f|f|f
  ·have:=z _ f;omega
  ·omega
  ·omega
 ·obtain⟨F,E,D⟩:=h.free j w
  exact⟨F.mono λk e=>.inr e,E.mono λk e=>.inr e,D.mono λk e=>.inr e⟩
theorem Hr (g:Value)(t:List Nod)(K:Nat)(i:Int)(w:World)(l:bl t K)(m:aD t K)(k:NL w g t)(h:¬bc t i):
  Calls prog 106 #[g,.int .i64 i] w λe w'=>(∃ r,e=.returned (.tuple #[r,.int .i64 11])/\NL w' r t)/\Kp w w':=by
 obtain⟨u,s,o⟩:=m.small;have f:=JE (zc g t w k o (by omega) (λx j=>⟨by have:=(l.node x).pub;omega,by have:=(l.node x).unl;omega,by have:=(l.node x).hash;omega⟩));have d:=JE (λW (y:Kp w W)=>xT g t K i W (k.kp y) m);rw[Kb h] at d;obtain⟨a,c,rfl,_,_⟩:=k.shape;generalize z:t.length=N at f d ⊢;clear l m k h u s o z;go_enter func106,ntmps106;go_wp2_with fail;refine f.out.mono ?_;rintro _ p ⟨⟨C,P,U,H,rfl,j⟩,q⟩;have n:=JE (JN j.no.nl q);obtain⟨B,v,A,rfl⟩:=j.no.nl.sl;clear j q;go_wp2_with fail;have b:Hid (Kp p (p.alloc (.cells #[.slice B v A] 22))):=(NQ _).alloc _;refine(d.out _ (n.out.2.trans b.out)).mono ?_;rintro _ _ ⟨rfl,rfl⟩;go_wp2_with fail;go_ret2;exact⟨⟨_,rfl,n.out.1.kp b.out⟩,n.out.2.trans b.out⟩
theorem Hs (vt:Value)(t:List Nod)(K i:Nat)(w:World)(hT:bl t K)(hr:aD t K)(ht:NL w vt t)(M:Tab w)(hi:i<2 ^ K)(h:bc t (i:Int)):
  Calls prog 106 #[vt,.int .i64 (i:Int)] w λe w'=>(∃ r,e=.returned (.tuple #[r,.int .i64 0])/\NL w' r (gM t (i:Int)))/\Kp w w':=by
 obtain⟨z1,z2,z3⟩:=hr.small;have hK:=hr.le;have a5:=JE (zc vt t w ht z3 (by omega) (λx hx=>⟨by have:=(hT.node x).pub;omega,by have:=(hT.node x).unl;omega,by have:=(hT.node x).hash;omega⟩));have ay:=JE (λW (I:Kp w W)=>xT vt t K (i:Int) W (ht.kp I) hr);rw[Ke h] at ay;have ao:=JE (λW (I:Kp w W)=>xS vt t W (ht.kp I) (by omega));rw[(nY hr.le hr.len).1] at ao;have aB:Hid (∀ W,Kp w W->Calls prog 92 #[.int .i64 ((2*i:Nat):Int),.int .i64 ((2 ^ K:Nat):Int)] W λe w'=>(∃ v,e=.returned (.tuple #[v,.int .i64 0])/\ON 3 w' W.heap.size v (aL K 0 i))/\Kp W w'):=λW I=>by
  have:=xR K 0 i W hr.le (JW _) (by simpa using hi) (M.kp I);rwa [eF] at this
 have bL:=bP hr.le;have i1:IntKind.i64.wrap (2*(i:Int))=((2*i:Nat):Int):=by rw[JI _ (by omega)];omega
 obtain⟨q1,q2,q3⟩:=lS hr.le hr.len hi;obtain⟨u,aP⟩:∃ u:Int,((2*i:Nat):Int)=u:=⟨_,rfl⟩;rw[aP] at aB i1;have bD:=JE aP;clear aP;obtain⟨NN,bp⟩:∃ NN:Int,((2 ^ K:Nat):Int)=NN:=⟨_,rfl⟩;rw[bp] at aB ao;clear bp;obtain⟨a,c,rfl,_,_⟩:=ht.shape;have bw:=JE (JN M ht);generalize hN:t.length=N at a5 ay ao bw ⊢;refine(callsIn_wide (n:=4)).1 ?_;refine callsIn_of_wp_marks func106 rfl trivial ?_ rfl;refine wpIn_wide.2 ?_;simp only[ntmps106,Lj,Lk,Kf,Ka,Nat.reduceAdd,Nat.reduceSub,Lg,Lh,Lq,La,Ll];go_wp2_with fail;refine a5.out.mono ?_;rintro _ q ⟨⟨v1,P,U,H,rfl,hx⟩,k1⟩;obtain⟨g,E,rfl,g1,g2,_⟩:=hx.no.form z3;rw[hN] at hx ⊢;have HX:=JE (hx.weak (S':=λ_=>False) (λ_ _ h=>h.elim));have HG:=JE (JN g1 g2);have K1:=JE k1;clear hx k1 g1 g2;go_wp2_with fail;obtain⟨w2,ad⟩:∃ w2,q.alloc (.cells #[.slice (some ⟨g,0,none⟩) N E] 22)=w2:=⟨_,rfl⟩;have av:Boxed w2 q.heap.size 22 (.slice (some ⟨g,0,none⟩) N E):=by rw[<-ad];exact Boxed.new _ _ _
 have k2:Kp q w2:=by rw[<-ad];exact(NQ _).alloc _
 have s2:w2.heap.size=q.heap.size+1:=by rw[<-ad];simp
 rw[ad];clear ad;refine(ay.out _ (K1.out.trans k2)).mono ?_;rintro _ _ ⟨rfl,rfl⟩;go_wp2_with fail;obtain⟨F,ab⟩:∃ F,w2.alloc (.cells #[.int .i64 u] 3)=F:=⟨_,rfl⟩;have au:Boxed F w2.heap.size 3 (.int .i64 u):=by rw[<-ab];exact Boxed.new _ _ _
 have k3:Kp w2 F:=by rw[<-ab];exact(NQ _).alloc _
 have s3:F.heap.size=w2.heap.size+1:=by rw[<-ab];simp
 rw[ab];rw[s2] at au s3;clear ab;have L:=JE (JN (av.alloc (.cells #[.int .i64 u] 3)) au);have h6:Boxed F q.heap.size 22 (.slice (some ⟨g,0,none⟩) N E):=(k3.block _ av.lt).trans av;have L:=JE (JN h6 au);have K3:=JE (JN (k2.trans k3) s3);have aV:Hid (Kp w F.drew):=(K1.out.trans K3.out.1).drew;have C:Hid (∀ W,Kp F W->W.cell? ⟨q.heap.size+1,0,none⟩=some (.int .i64 u)):=λW I=>I.cell L.out.2.cell
 have bM:=JE (C.out _ (Kp.drew (NQ F)));clear h6 av au k2 k3 s2 s3 ay a5;go_region_held3 (λW=>W.cell? ⟨q.heap.size+1,0,none⟩=some (.int .i64 u))
  (first|with_reducible exact bM.out|with_reducible exact S4.out)
  (first
   | (go_at_call 92;refine(aB.out _ aV.out).mono ?_;rintro _ s ⟨⟨r4,rfl,o4⟩,k4⟩;obtain⟨a4,p,b4,rfl⟩:=(ON.rn o4).sl;have S4:=JE (C.out _ ((Kp.drew (NQ F)).trans k4)))
   | (go_at_call 143;refine(ao.out _ aV.out).mono ?_;rintro _ _ ⟨rfl,rfl⟩))
 have K4:Hid (Kp F s):=(Kp.drew (NQ F)).trans k4;have O4:=JE o4;clear bM S4 C ao aB o4 k4;go_wp2_with fail;obtain⟨w5,aa⟩:∃ w5,s.alloc (.cells #[.slice none 0 0] 24)=w5:=⟨_,rfl⟩;have ai:Boxed w5 s.heap.size 24 (.slice none 0 0):=by rw[<-aa];exact Boxed.new _ _ _
 have k5:Kp s w5:=by rw[<-aa];exact(NQ _).alloc _
 have s5:w5.heap.size=s.heap.size+1:=by rw[<-aa];simp
 rw[aa];clear aa;refine(Ho _ _ _ _).mono ?_;rintro _ T ⟨rfl,aq⟩;have bi:Boxed T w5.heap.size 34 (.slice a4 p b4):=by rw[<-aq];exact Boxed.new _ _ _
 have k6:Kp w5 T:=by rw[<-aq];exact(NQ _).alloc _
 have s6:T.heap.size=w5.heap.size+1:=by rw[<-aq];simp
 clear aq;obtain⟨bK,af⟩:p=K/\∀ k,k<K->(aL K 0 i).getD k 0<N/\(aL K 0 i).getD k 0 % 2=1:=by
  have hl:(aL K 0 i).length=K:=by rw[<-q1];exact q3
  obtain⟨_,_,e,_⟩:=(ON.rn O4.out).shape;simp only[JR] at e;refine⟨by omega,λk d=>⟨?_,?_⟩⟩
  ·have:=q2 k (by omega)
   rw[q1] at this;omega
  ·rw[JF,JG (by omega)]
   exact ik (Ko _)
 subst bK;have aw:(aL p 0 i).length=p:=by rw[<-q1];exact q3
 obtain⟨gP,V,bo,bn⟩:∃ gP V,(0<p->a4=some ⟨gP,V,none⟩/\∀ k,k<p->T.cell? ⟨gP,V+k,none⟩=some (.int .i64 (((aL p 0 i).getD k 0:Nat):Int)))/\(gP=s.heap.size+1\/(q.heap.size+2<=gP/\gP<s.heap.size)):=by
  by_cases h0:0<p
  ·obtain⟨gP,V,rfl,hb,hc⟩:=(ON.rn O4.out).at 0 h0
   refine⟨gP,V,λ_=>⟨rfl,λk d=>k6.cell (k5.cell (hc k d))⟩,.inr ⟨?_,hb⟩⟩;have h1:=ON.own_ge O4.out gP rfl;have h2:F.drew.heap.size=F.heap.size:=rfl;have h3:=K3.out.2;omega
  ·exact⟨s.heap.size+1,0,λh=>absurd h h0,.inl rfl⟩
 obtain⟨f,al⟩:∃ f:Nat->List Nod × List UInt8,f=λm=>((aL p 0 i).reverse.take m).foldl (dL i) (t,[]):=⟨_,rfl⟩
 have aX:Hid (f 0=(t,[])):=by unfold Hid;rw[al];rfl
 have aW:Hid (∀ m,m<p->f (m+1)=dL i (f m) ((aL p 0 i).getD (p - 1 - m) 0)):=λm hm=>by
  rw[al];show((aL p 0 i).reverse.take (m+1)).foldl (dL i) (t,[])=_
  rw[pM _ _ _ m 0 (by rw[List.length_reverse,aw];exact hm)];congr 1
  rw[JF,JF,List.getElem?_reverse (by omega),aw]
 have bA:Hid (f p=fh t i):=by
  unfold Hid fh;rw[al,q1];show((aL p 0 i).reverse.take p).foldl (dL i) (t,[])=_
  rw[Ku (by rw[List.length_reverse,aw];exact JO _)]
 have aA:Hid (∀ m,bl (f m).1 p/\(f m).1.length=N/\((f m).2.length=0\/(f m).2.length=32)):=λm=>by
  rw[al];have d:=rY (t:=t) (K:=p) (i:=i) ((aL p 0 i).reverse.take m) (t,[]) (λx hx=>by
   have bJ:=List.mem_reverse.1 (List.mem_of_mem_take hx);obtain⟨k,d,rfl⟩:=Ld bJ;have:=(af k (by omega)).1;rw[JF,JG d] at this;exact hN▸this) hT rfl (.inl rfl)
  exact⟨d.1,d.2.1.trans hN,d.2.2.1⟩
 have aY:Hid (∀ m,m<p->(aL p 0 i).getD (p - 1 - m) 0<N/\(aL p 0 i).getD (p - 1 - m) 0 % 2=1):=λm hm=>af _ (by omega)
 have bS:Hid (∀ W,Kp w W->Tab W):=λW I=>M.kp I
 have aG:Hid (gM t (i:Int)=(fh t i).1.set (2*i) (dm (ats (fh t i).1 (2*i)) (fh t i).2)/\2*i<N):=⟨by unfold gM;rw[if_pos h,JX],by omega⟩;have aQ:p<=100000:=by omega
 have aU:Hid (Kp s T):=k5.trans k6;have aC:=JE (Hp (aL p 0 i) p a4 b4 (s.heap.size+1) gP V T aQ (by have:=bi.cell;rwa [s5] at this) bo);have HZ:Hid (Kp w T/\T.heap.size=s.heap.size+2/\q.heap.size+2<=s.heap.size/\w.heap.size<=g/\g<q.heap.size):=⟨K1.out.trans (K3.out.1.trans (K4.out.trans aU.out)),by omega,by have:=K4.out.size;have:=K3.out.2;omega,HG.out⟩;have a3:Hid (fk w q.heap.size (q.heap.size+1) s.heap.size g N E u (t,[]) (λ_=>False) T (.slice none 0 0) P U H):=by
  have aH:Kp F T:=K4.out.trans aU.out;have bI:Kp q T:=K3.out.1.trans aH;refine⟨(aH.block _ L.out.1.lt).trans L.out.1,(aH.block _ L.out.2.lt).trans L.out.2,(k6.block _ ai.lt).trans ai,bU _,br.nil _ _ _,HX.out.kp bI,λj hj=>?_,HZ.out.1,⟨HG.out.1,HG.out.2,by omega,by have:=HZ.out;omega⟩⟩;have aK:=HX.out.ins j hj;have hz:=HZ.out;exact⟨λx n c e h0 d=>by have:=aK.pub.inside x n c e h0;rcases d with d|d;exact d;omega,λx n c e h0 d=>by have:=aK.un.inside x n c e h0;rcases d with d|d;exact d;omega,λx n c e h0 d=>by have:=aK.hash.inside x n c e h0;rcases d with d|d;exact d;omega⟩
 have bC:=JE bn;clear al af bo bn aw ai bi k5 k6 s6 K3 aV K4 O4 aU L HX HG q1 q2 q3 hN hT hr ht M hi h z1 z2 z3 hK bL K1 bw;rw[s5];go_wp2_with fail;have hE:∀ args w,(callFunc 175 args).run prog w=.ok (.enter 175 args) w:=enters_of func175 (by kernel_rfl) rfl;obtain⟨R,hR⟩:∃ R:Nat->Prop,(λk=>k=s.heap.size+1\/k=gP)=R:=⟨_,rfl⟩;have bB:Hid (∀ k,R k->k<T.heap.size/\k≠g/\k≠s.heap.size):=λk d=>by
  have:=HZ.out;have:=bC.out;rw[<-hR] at d;rcases d with rfl|rfl <;> omega
 rw[hR] at aC;clear hR bC;have bF:Hid (∀ m Y A,(∃ rt P U H,fk w q.heap.size (q.heap.size+1) s.heap.size g N E u (f m) Y A rt P U H)↔(∃ rt P U H,fk w q.heap.size (q.heap.size+1) s.heap.size g N E u (f m) Y A rt P U H)):=λ_ _ _=>Iff.rfl
 refine sM (gf:=175) (lb:=#[.pointer (some ⟨s.heap.size+1,0,none⟩)]) rfl hE (NQ T) (λk d=>(bB.out k d).1) aC.out ?sz
   (λm Y A=>∃ rt P U H,fk w q.heap.size (q.heap.size+1) s.heap.size g N E u (f m) Y A rt P U H) (λc m Y A=>False) ?mI ?mIx ?TT ?h0
   (λv a' _=>∃ x y:Int,v=#[.int .i64 x,.int .i64 y]/\a'={ tmps:=#[.slice a N c,.int .i64 (i:Int),undef,undef,.slice none 0 0,.int .i64 0,.pointer (some ⟨q.heap.size,0,none⟩),.pointer (some ⟨q.heap.size+1,0,none⟩),.slice a4 p b4,.int .i64 0,.pointer (some ⟨s.heap.size,0,none⟩),undef,.int .i64 y,.slice a N c,.slice (some ⟨g,0,none⟩) N E,.slice a N c,.int .i64 (i:Int),.bool true,.bool false,undef,.int .i64 (i:Int),.int .i64 u,.tuple #[.slice a4 p b4,.int .i64 0],.int .i64 u,.slice a N c,.int .i64 NN,.tuple #[.slice a4 p b4,.int .i64 0],.slice a4 p b4,.int .i64 0,.slice a4 p b4,.func (.func 175) #[] #[.pointer (some ⟨s.heap.size+1,0,none⟩)],.int .i64 x,.int .i64 y,undef,undef,undef,undef,undef,undef,undef,undef,undef,undef,undef,undef,undef,undef,undef,undef,undef,undef,undef,undef,undef,undef,undef],defers:=[] })
   (λ_ _ _ _ _ _ h _ _=>h) ?assign ?body ?done ?stop
 case h0=>rw[aX.out];exact⟨_,_,_,_,a3.out⟩
 case sz=>intro m v Y A h;rw[h];rfl
 case mI=>intro m;exact fk.minds (by have:=HZ.out;omega)
 case mIx=>intro c m Y Y' A A' h;exact h.elim
 case TT=>intro m v Yi Y A A' l o h _ _ _ _ _;exact h
 case assign=>
  intro l m Y Yi v A Kk z aO hK;subst aO;gi_wp2
  exact hK _ _ (NQ _) ⟨_,_,rfl,rfl⟩
 case body=>
  rintro l m Y v a' A hm ⟨rt,P9,U9,H9,z⟩ aI bk aO ⟨x,y,a9,rfl⟩;subst aO;simp only[Array.mk.injEq,NG,Value.int.injEq,true_and,and_true] at a9;obtain⟨rfl,rfl⟩:=a9;obtain⟨J9,aS⟩:∃ J9:World->Prop,∀ B,J9 B↔∃ rt P U H,fk w q.heap.size (q.heap.size+1) s.heap.size g N E u (f (m+1)) Y B rt P U H:=⟨_,λ_=>Iff.rfl⟩;have bE:=JE aS;obtain⟨Z9,aN⟩:∃ Z9:Nat->Prop,(λk=>Y k\/R k)=Z9:=⟨_,rfl⟩;rw[aN];have bt:Hid (∀ k,Z9 k->k≠g/\k≠s.heap.size/\k<A.heap.size):=λk d=>by
   have hz:=HZ.out;rw[<-aN] at d;rcases d with d|d
   ·have:=aI k d;omega
   ·have h1:=bB.out k d
    have h2:=bk.size;exact⟨h1.2.1,h1.2.2,by omega⟩
  refine wpIn_mono (Q:=λe _ B=>Hq J9 A Z9 e B) ?_ (λe a B h=>⟨h.2.2,.inl ⟨h.1,(aS B).1 h.2.1⟩⟩);have bR:Hid (∀ k,Y k->k<A.heap.size):=λk d=>(aI k d).2
  obtain⟨x1,x2⟩:=aY.out m hm;obtain⟨a8,a7,a6⟩:=aA.out m;have bb:=aW.out m hm;generalize (aL p 0 i).getD (p - 1 - m) 0=X at *;generalize (p - 1 - m:Nat)=MM at *;have aZ:=JE bb;have hX:X<(f m).1.length:=by omega
  have bu:=JE (JN hX (JN x2 (JN a8 (JN a7 a6))));have Z:=z.row.at X hX;have ck:=Z.kind;have ch:=Z.hashC;have cf:=((z.row.there X hX 4 (by omega)) 0 (by omega)).2;rw[Mj] at cf;have c6:=z.out.cell;have c7:=z.leaf.cell;have bs:=z.box.cell;have i2:(X:Int)<(N:Int):=by omega
  have HI:=JE z;obtain⟨ar,nr,cr,rfl⟩:=bz z.told;have aM:∃ ah nh an,H9 X=.slice ah nh an:=bz (z.row.ins X hX).hash;obtain⟨ah,nh,an,am⟩:=aM;rw[am] at ch;clear z Z aI bk aN aS hm x1 x2 a8 a7 a6 bb hX am aC aA aY aW bF aX a3;by_cases d:(ats (f m).1 X).kind=2
  ·rw[d] at ck
   have a0:=JE d;have bN:prog.follows .mixedOrders=true:=by kernel_rfl
   have b3:prog.follows .lateStores=true:=by kernel_rfl
   clear d;gi_wp2
   obtain⟨A1,ax⟩:∃ A1,A.setCell ⟨g,X*5+4,none⟩ (.slice ar nr cr)=A1:=⟨_,rfl⟩;rw[ax];have hh:=bu.out;have ag:=HI.out.rehash hh.1;rw[ax] at ag;have bG:Hid (aR Z9 A A1/\A1.heap.size=A.heap.size):=by
    rw[<-ax];exact⟨⟨by simp,λk d hz=>Below.heap_setCell A _ _ k (λe=>(bt.out k hz).1 (by rw[e]))⟩,by simp⟩
   have aE:dL i (f m) X=((f m).1.set X (dm (ats (f m).1 X) (f m).2),er ((f m).1.set X (dm (ats (f m).1 X) (f m).2)) (X:Int) (if X<2*i then 1 else 0)):=by
    unfold dL;rw[if_pos a0.out]
   have bx:=hh.2.2.1.hashed X (b:=(f m).2) (by omega) hh.1;have bH:(ats ((f m).1.set X (dm (ats (f m).1 X) (f m).2)) X).kind=2:=by rw[fm _ _ _ _ hh.1,if_pos rfl];exact a0.out
   have bd:NL A1 (.slice (some ⟨g,0,none⟩) N E) ((f m).1.set X (dm (ats (f m).1 X) (f m).2)):=ag.row.no.nl;rw[aE] at aZ;have bv:Hid (X<((f m).1.set X (dm (ats (f m).1 X) (f m).2)).length):=by unfold Hid;rw[Km];exact hh.1
   generalize (f m).1.set X (dm (ats (f m).1 X) (f m).2)=T1 at *;have ae:(if (X:Int)<u then (1:Int) else if u<(X:Int) then 0 else 1)=(if X<2*i then 1 else 0):=by
    have h1:=bD.out;have h2:=hh.2.1;by_cases bf:X<2*i
    ·rw[if_pos (by omega),if_pos bf]
    ·rw[if_neg (by omega),if_neg bf,if_pos (by omega)]
   have bT:Hid (∀ W,Calls prog 146 #[.int .i64 (X:Int),.int .i64 u] W λe w'=>e=.returned (.int .i64 (if X<2*i then 1 else 0))/\W=w'):=λW=>by
    have:=EM (X:Int) u W;rwa [ae] at this
   have ba:((if X<2*i then 1 else 0:Int)=0)\/((if X<2*i then 1 else 0:Int)=1):=by split;exact .inr rfl;exact .inl rfl
   have b1:Hid (∀ W,Kp A1 W->Calls prog 145 #[.slice (some ⟨g,0,none⟩) N E,.int .i64 (X:Int),.int .i64 (if X<2*i then 1 else 0)] W λe w'=>(∃ r,e=.returned r/\Ow 5 w' W.heap.size r (er T1 (X:Int) (if X<2*i then 1 else 0)))/\Kp W w'):=λW I=>
    Hn _ T1 p X _ W bx (bd.kp I) (bS.out W (ag.kp.trans I)) bv.out bH ba
   generalize (if X<2*i then 1 else 0:Int)=SD at *;generalize er T1 (X:Int) SD=V9 at *;have ap:=JE ag;have C:Hid (∀ W,Kp A1 W->W.cell? ⟨q.heap.size,0,none⟩=some (.slice (some ⟨g,0,none⟩) N E)/\W.cell? ⟨q.heap.size+1,0,none⟩=some (.int .i64 u)):=λW I=>⟨I.cell ap.out.out.cell,I.cell ap.out.leaf.cell⟩
   have J:Hid (Kp A1 A1.drew):=Kp.drew (NQ A1);clear ax ag aE bx bH bd ae ba ck ch cf c6 c7 bs a0 hh bu HI bv;refine vI (S:=λW=>W.cell? ⟨q.heap.size,0,none⟩=some (.slice (some ⟨g,0,none⟩) N E)/\W.cell? ⟨q.heap.size+1,0,none⟩=some (.int .i64 u)) bN ?_;refine bm.take 0 (.slice (some ⟨g,0,none⟩) N E) rfl (by kernel_rfl) (by kernel_rfl) (by kernel_rfl) (by kernel_rfl) (λ_ _ _ h=>h) (C.out _ J.out) ⟨λc e=>(by cases e),λ_=>rfl,.inl ⟨rfl,λW' ak=>?_⟩⟩ ?_
   ·have:=ak.1
    go_simp
   refine bm.take 1 (.int .i64 (X:Int)) rfl (by kernel_rfl) (by kernel_rfl) (by kernel_rfl) (by kernel_rfl) (λ_ _ _ h=>h) (C.out _ J.out) ⟨λc e=>(by cases e),λ_=>rfl,.inl ⟨rfl,λW' ak=>?_⟩⟩ ?_
   ·go_simp
   refine bm.take 2 (.int .i64 (X:Int)) rfl (by kernel_rfl) (by kernel_rfl) (by kernel_rfl) (by kernel_rfl) (λ_ _ _ h=>h) (C.out _ J.out) ⟨λc e=>(by cases e),λ_=>rfl,.inl ⟨rfl,λW' ak=>?_⟩⟩ ?_
   ·go_simp
   refine bm.take 3 (.int .i64 u) rfl (by kernel_rfl) (by kernel_rfl) (by kernel_rfl) (by kernel_rfl) (λ_ _ _ h=>h) (C.out _ J.out) ⟨λc e=>(by cases e),λ_=>rfl,.inl ⟨rfl,λW' ak=>?_⟩⟩ ?_
   ·have:=ak.2
    go_simp
   go_simp;refine bm.one 4 rfl (by kernel_rfl) (λK2 hK=>?_);go_simp;gi_wp2_with (refine⟨trivial,?_⟩;gi_at_call 146;refine(CallsIn.inRound l (callsIn_wide.2 (bT.out _))).mono ?_;rintro _ _ ⟨rfl,rfl⟩)
   refine hK _ _ (C.out _ J.out) ?_;clear hK K2;refine bm.one 5 rfl (by kernel_rfl) (λK2 hK=>?_);go_simp;gi_wp2_with (refine⟨trivial,?_⟩;gi_at_call 145;refine(CallsIn.inRound l (callsIn_wide.2 (b1.out _ J.out))).mono ?_;rintro _ A2 ⟨⟨r2,rfl,o2⟩,k2⟩)
   have G:Kp A1 A2:=J.out.trans k2;have a1:=JE (ap.out.tell G o2 (JO _) (λk d=>by have:=bR.out k d;have:=bG.out.2;omega));obtain⟨a2,n2,b2,rfl⟩:=bz o2.rd;have b8:=(ap.out.kpI G).box.cell;have b7:=(ap.out.kpI G).box.frozen;have bZ:Hid (aR Z9 A (A2.setCell ⟨s.heap.size,0,none⟩ (.slice a2 n2 b2))):=bG.out.1.trans ⟨by have:=G.size;simpa using this,λk d hz=>(Below.heap_setCell A2 _ _ k (λe=>(bt.out k hz).2.1 (by rw[e]))).trans (G.block k d)⟩;have bY:Hid (J9 (A2.setCell ⟨s.heap.size,0,none⟩ (.slice a2 n2 b2))):=(bE.out _).2 ⟨_,_,_,_,by rw[aZ.out];exact a1.out⟩;have bV:Hid ((A2.setCell ⟨s.heap.size,0,none⟩ (.slice a2 n2 b2)).cell? ⟨q.heap.size,0,none⟩=some (.slice (some ⟨g,0,none⟩) N E)/\(A2.setCell ⟨s.heap.size,0,none⟩ (.slice a2 n2 b2)).cell? ⟨q.heap.size+1,0,none⟩=some (.int .i64 u)):=⟨a1.out.out.cell,a1.out.leaf.cell⟩;refine hK _ _ (C.out _ G) ?_;clear hK K2 G k2 o2;refine bm.one 6 rfl (by kernel_rfl) (λK2 hK=>?_);go_simp;refine hK _ _ bV.out ?_;clear hK K2;refine bm.done (by kernel_rfl) ?_;exact⟨rfl,bY.out,bZ.out⟩
  ·have b5:((ats (f m).1 X).kind==2)=false:=JL.2 d
   have HD:Hid (J9 A):=(bE.out A).2 ⟨_,_,_,_,by rw[aZ.out];unfold dL;rw[if_neg d];exact HI.out⟩;generalize (ats (f m).1 X).kind=KD at *;clear d;gi_wp2
   exact⟨rfl,HD.out,aR.refl _ _⟩
 case done=>
  rintro D' Y W hD aj bj ⟨rt,P9,U9,H9,z⟩ hd;rename_i Qp Kk bQ
  have aF:=(aA.out p).2.1;rw[bA.out] at z aF;obtain⟨aT,bq⟩:=aG.out;obtain⟨O,bO⟩:∃ O,2*i=O:=⟨_,rfl⟩;have bg:=bD.out;rw[bO] at bg aT bq;subst bg;have hX:O<(fh t i).1.length:=by omega
  have Z:=z.row.at O hX;have ch:=Z.hashC;have cf:=((z.row.there O hX 4 (by omega)) 0 (by omega)).2;rw[Mj] at cf;have c6:=z.out.cell;have c7:=z.leaf.cell;have bs:=z.box.cell;have i2:(O:Int)<(N:Int):=by omega
  obtain⟨ar,nr,cr,rfl⟩:=bz z.told;have aM:∃ ah nh an,H9 O=.slice ah nh an:=bz (z.row.ins O hX).hash;obtain⟨ah,nh,an,am⟩:=aM;rw[am] at ch;have D:=z.rehash hX;rw[<-aT] at D;have hz:=HZ.out;have be:D'≠g:=by omega
  have bh:(W.setCell ⟨g,O*5+4,none⟩ (.slice ar nr cr)).heap[D']?=some (.deferred (some [])):=(Below.heap_setCell W _ _ D' be).trans hd;have aJ:az (λk=>k=D') (W.setCell ⟨g,O*5+4,none⟩ (.slice ar nr cr)) ((W.setCell ⟨g,O*5+4,none⟩ (.slice ar nr cr)).putObj D' (.deferred none)):=(NU _ _).putObj _ _ (.inr rfl);have b6:(W.setCell ⟨g,O*5+4,none⟩ (.slice ar nr cr)).cell? ⟨q.heap.size,0,none⟩=some (.slice (some ⟨g,0,none⟩) N E):=D.out.cell;have bW:Hid (NL ((W.setCell ⟨g,O*5+4,none⟩ (.slice ar nr cr)).putObj D' (.deferred none)) (.slice (some ⟨g,0,none⟩) N E) (gM t (i:Int))):=
   (D.row.stepF aJ (λe=>be e.symm) (λj hj=>⟨(D.free j hj).1.mono λk e=>.inl (e▸aj),(D.free j hj).2.1.mono λk e=>.inl (e▸aj),(D.free j hj).2.2.mono λk e=>.inl (e▸aj)⟩)).no.nl
  have bX:Hid (Kp w ((W.setCell ⟨g,O*5+4,none⟩ (.slice ar nr cr)).putObj D' (.deferred none))):=Below.trans D.kp (aJ.below D.kp.size (λk d=>by have:=hz.1.size;omega));have b0:=JE bh;clear z D Z am aF aT bq hX aJ bh bj aj aC aA aY aW bF aX a3 bA aG;simp only[Exit.inBlock,Exit.then];refine bQ _ _ ?_;go_wp2;refine⟨by simp,.inl ⟨_,_,rfl,run_takeDeferred b0.out,?_⟩⟩;exact⟨_,results_tmp2 rfl _ _ _,⟨_,rfl,bW.out⟩,bX.out⟩
 case stop=>intro D' c m Y W hD aj bj hm h;exact h.elim
theorem Ht (b:Value)(t:List Nod)(K:Nat)(i:Int)(w:World)(f:bl t K)(c:aD t K)(d:NL w b t)(j:-9223372036854775808<=i/\i<=9223372036854775807)(a:Tab w):
  Calls prog 106 #[b,.int .i64 i] w λe w'=>(∃ r,e=.returned (.tuple #[r,.int .i64 (iO t i)])/\NL w' r (gM t i))/\Kp w w':=by
 by_cases h:bc t i
 ·rw[show iO t i=0 from if_pos h]
  obtain⟨k,rfl⟩:=Kc h.1;have g:=h.2.1;rw[c.lv] at g;exact Hs b t K k w f c d a (by omega) h
 ·rw[show iO t i=11 from if_neg h,show gM t i=t from if_neg h]
  exact Hr b t K i w f c d h
