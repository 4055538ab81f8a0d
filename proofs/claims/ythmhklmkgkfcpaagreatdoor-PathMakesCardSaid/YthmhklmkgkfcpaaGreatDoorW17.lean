import Derived.Test.YthmhklmkgkfcpaaGreatDoorW15
set_option linter.all false
set_option maxHeartbeats 8000000
set_option maxRecDepth 100000
namespace Go.Proofs.YthmhklmkgkfcpaaGreatDoor
open Go.Proofs.Tryz Go.RowKit
variable {a l:List UInt8}{c n p:Nat}{w:World}
def lF:List UInt8:=[108,111,99,107]
def lG:List UInt8:=[116,97,103]
def gF (key:List UInt8):List UInt8:=bU key lF [] 16
def fV (key:List UInt8):List UInt8:=bU key lG [] 32
theorem vI (key:List UInt8):(gF key).length=16:=by
 exact(congrArg List.length (lB (n:=16) key (de lF [] 16) (by omega)).2).trans (mV _ (jf _ _) 16)
theorem rE (key:List UInt8):(fV key).length=32:=by
 exact(congrArg List.length (lB (n:=32) key (de lG [] 32) (by omega)).2).trans (mV _ (jf _ _) 32)
def iK (key:List UInt8):Int:=if key.length=32 then 0 else 1
def iL (key:List UInt8):List UInt8:=if key.length=32 then gF key else []
def iM (key:List UInt8):List UInt8:=if key.length=32 then fV key else []
def nD (nonce aad s:List UInt8):List UInt8:=aI aad++(nonce++s)
def dS (key nonce aad s:List UInt8):List UInt8:=dZ (fV key) (nD nonce aad s)
theorem vJ (key a b s:List UInt8):(dS key a b s).length=32:=mW _ _
def cV (key nonce b:List UInt8):List UInt8:=bL (cK (gF key)) nonce b
def eR (key nonce aad b:List UInt8):List UInt8:=cV key nonce b++dS key nonce aad (cV key nonce b)
def okK (key nonce:List UInt8):Prop:=key.length=32/\nonce.length=12
instance (key nonce:List UInt8):Decidable (okK key nonce):=by unfold okK;infer_instance
def jk (key nonce:List UInt8):Int:=if okK key nonce then 0 else 1
def jl (key nonce aad b:List UInt8):List UInt8:=if okK key nonce then eR key nonce aad b else []
def fH (key nonce aad b:List UInt8):Int:=
 if okK key nonce then (if b.length<32 then 3 else if dS key nonce aad (b.take (b.length - 32))=b.drop (b.length - 32) then 0 else 5) else 1
def fW (key nonce aad b:List UInt8):List UInt8:=if fH key nonce aad b=0 then cV key nonce (b.take (b.length - 32)) else []
theorem pk (key a b:List UInt8):(cV key a b).length=b.length:=kj _ _ _
theorem rF (key a c b:List UInt8):(eR key a c b).length=b.length+32:=by
 unfold eR;rw[Jc,pk,vJ]
theorem Cw (key a c b:List UInt8):(eR key a c b).take b.length=cV key a b/\(eR key a c b).drop b.length=dS key a c (cV key a b):=by
 unfold eR;have h:=pk key a b;exact⟨by rw[Le (by omega),JG (by omega)],by rw[Lf (by omega),LU (by omega),JR]⟩
theorem Cx (K a b:List UInt8):bL K a (bL K a b)=b:=by
 refine lD b.length _ _ (by rw[kj,kj]) rfl λj c=>?_
 rw[rD _ _ _ _ (by rw[kj];exact c)];unfold fG;rw[rD _ _ _ _ c];unfold fG;rw[UInt8.xor_assoc,UInt8.xor_self,UInt8.xor_zero]
theorem Cy {key:List UInt8}(c b:List UInt8)(h:okK key a):fH key a c (eR key a c b)=0/\fW key a c (eR key a c b)=b:=by
 have d:=rF key a c b;obtain⟨p1,p2⟩:=Cw key a c b;have e:fH key a c (eR key a c b)=0:=by
  unfold fH;rw[if_pos h,if_neg (by omega),d,KP,p1,p2,if_pos rfl]
 refine⟨e,?_⟩;unfold fW;rw[if_pos e,d,KP,p1];exact Cx _ _ _
def vK (base:List UInt8)(n:Int):Prop:=base.length=12/\0<=n/\n<=4294967295
instance (base:List UInt8) (n:Int):Decidable (vK base n):=by unfold vK;infer_instance
theorem xH (p:Nat)(T:TypeId)(c:Value)(s:ByteArray)(key:List UInt8)(n:Int)(w:World)(h:One T w p c)(d:Rd w c key)(b:key.length<=2000)(g:s.size<=300)(a:-9223372036854775808<=n/\n<=9223372036854775807):
  Calls prog 237 #[.string s,.int .i64 n,.pointer (some ⟨p,0,none⟩)] w λe w'=>(∃ v,e=.returned (.tuple #[v,.int .i64 (fv n)])/\Rd w' v (bU key s.data.toList [] n))/\Kp w w':=by
 have k:=Lib.hid (pg c s (.slice none 0 0) key [] n w d (cU w) g (by simp) b a);obtain⟨r,m,q,rfl⟩:=d.sl;have o:=h.cell;clear h d b g a;go_enter func237,ntmps237;go_wp2_with fail;refine k.out.mono ?_;rintro _ l ⟨⟨v,rfl,f⟩,j⟩;have i:=f.rd;clear f;go_wp2_with fail;go_ret2;exact⟨⟨_,rfl,i⟩,j⟩
theorem xI (aa:Value)(key:List UInt8)(w:World)(h:Rd w aa key):
  Calls prog 202 #[aa] w λe w'=>(∃ a b,e=.returned (.tuple #[a,b,.int .i64 (iK key)])/\Rd w' a (iL key)/\Rd w' b (iM key))/\Kp w w':=by
 obtain⟨m,l,rfl,z,C⟩:=h.shape;by_cases c:key.length=32
 ·have k:iK key=0:=if_pos c
  have j:iL key=bU key lF [] 16:=if_pos c;have i:iM key=bU key lG [] 32:=if_pos c;rw[k,j,i];have q:=Lib.hid (One.new 24 w (.slice m key.length l));have g:Hid (∀ W,Kp (w.alloc (.cells #[.slice m key.length l] 24)) W->Calls prog 237 #[.string ⟨#[108,111,99,107]⟩,.int .i64 16,.pointer (some ⟨w.heap.size,0,none⟩)] W λe w'=>(∃ v,e=.returned (.tuple #[v,.int .i64 0])/\Rd w' v (bU key lF [] 16))/\Kp W w'):=λW d=>xH _ _ _ ⟨#[108,111,99,107]⟩ key 16 W (q.out.kp d) (h.kp (((Kp.refl w).alloc _).trans d)) (by omega) (by decide) (by omega)
  have f:Hid (∀ W,Kp (w.alloc (.cells #[.slice m key.length l] 24)) W->Calls prog 237 #[.string ⟨#[116,97,103]⟩,.int .i64 32,.pointer (some ⟨w.heap.size,0,none⟩)] W λe w'=>(∃ v,e=.returned (.tuple #[v,.int .i64 0])/\Rd w' v (bU key lG [] 32))/\Kp W w'):=λW d=>xH _ _ _ ⟨#[116,97,103]⟩ key 32 W (q.out.kp d) (h.kp (((Kp.refl w).alloc _).trans d)) (by omega) (by decide) (by omega)
  clear q;rw[c] at g f z ⊢;clear h c k j i;go_enter func202,ntmps202;go_wp2_with fail;refine(g.out _ (Kp.refl _)).mono ?_;rintro _ r ⟨⟨B,rfl,t⟩,p⟩;go_wp2_with fail;refine(f.out r p).mono ?_;rintro _ w2 ⟨⟨A,rfl,s⟩,o⟩;have n:=t.kp o;have u:=(((Kp.refl w).alloc (.cells #[.slice m 32 l] 24)).trans p).trans o;clear p o;go_wp2_with fail;go_ret3
  exact⟨⟨_,_,rfl,n,s⟩,u⟩
 ·have k:iK key=1:=if_neg c
  have j:iL key=[]:=if_neg c;have i:iM key=[]:=if_neg c;rw[k,j,i];have y:((key.length:Int)==32)=false:=Jd.2 (by omega);have x:¬(key.length:Int)=32:=by omega
  go_enter func202,ntmps202;go_wp2_with fail;go_ret3
  exact⟨⟨_,_,rfl,cU _,cU _⟩,(Kp.refl _).alloc _⟩
theorem Ek (d v:Value)(k:List UInt8)(ls:List (List UInt8))(w:World)(l:Rd w d k)(h:RL w v ls)(b:k.length<=2000)(j:ls.flatten.length<=1900)(i:ls.length<1000000):
  Calls prog 204 #[d,v] w λe w'=>(∃ a c,e=.returned (.slice a 32 c)/\Ow 5 w' w.heap.size (.slice a 32 c) (dZ k ls.flatten))/\Kp w w':=by
 go_enter func204,ntmps204;go_wp2_with fail;refine(uU _ _ k ls _ l h b j i).mono ?_;rintro e m ⟨⟨o,n,rfl,f⟩,g⟩;go_wp2_with fail;go_ret;exact⟨⟨_,_,rfl,f⟩,g⟩
structure kx (w:World)(p q r:Nat)(own row nonce:List UInt8):Prop where
 mk ::
 one:∃ T v,One T w p v/\Rd w v own
 two:∃ T v,One T w q v/\Rd w v row
 three:∃ T v,One T w r v/\Rd w v nonce
theorem kx.kp {w':World}{q r:Nat}{own row:List UInt8}(h:kx w p q r own row a)(k:Kp w w'):kx w' p q r own row a:=by
 obtain⟨⟨o,d,l,g⟩,⟨n,c,j,f⟩,⟨m,b,i,e⟩⟩:=h;exact⟨⟨o,d,l.kp k,g.kp k⟩,⟨n,c,j.kp k,f.kp k⟩,⟨m,b,i.kp k,e.kp k⟩⟩
def nU (p q r:Nat):Value:=.func (.func 203) #[] #[.pointer (some ⟨p,0,none⟩),.pointer (some ⟨q,0,none⟩),.pointer (some ⟨r,0,none⟩)]
theorem xJ (p q r:Nat)(vs:Value)(own row b s:List UInt8)(w:World)(h:kx w p q r own row b)(f:Rd w vs s)(d:own.length<=2000)(F:row.length+b.length+s.length<=1900):
  Calls prog 203 #[vs,.pointer (some ⟨p,0,none⟩),.pointer (some ⟨q,0,none⟩),.pointer (some ⟨r,0,none⟩)] w λe w'=>(∃ a c,e=.returned (.slice a 32 c)/\Rd w' (.slice a 32 c) (dZ own (row++(b++s))))/\Kp w w':=by
 obtain⟨⟨X,z,o,j⟩,⟨W,M,n,i⟩,⟨V,L,m,g⟩⟩:=h;have P:=o.cell;have O:=n.cell;have N:=m.cell;have u:Hid (([row,b,s]:List (List UInt8)).flatten=row++(b++s)):=by simp[Hid]
 have t:=Lib.hid (Ek z (.slice (some ⟨w.heap.size,0,none⟩) 3 3) own [row,b,s] _ (j.kp ((Kp.refl _).alloc _)) (RL.lit3 (T:=24) i g f) d (by rw[u.out];simp;omega) (by simp));rw[u.out] at t;obtain⟨J,Q,S,rfl⟩:=j.sl;obtain⟨y,D,I,rfl⟩:=i.sl;obtain⟨x,C,H,rfl⟩:=g.sl;obtain⟨v,B,G,rfl⟩:=f.sl;clear o n m j i g f d F;go_enter func203,ntmps203;go_wp2_with fail;refine t.out.mono ?_;rintro e K ⟨⟨U,R,rfl,k⟩,l⟩;have E:=((Kp.refl w).alloc (.cells #[.slice y D I,.slice x C H,.slice v B G] 24)).trans l;have A:=k.rd;clear k l;go_wp2_with fail;go_ret;exact⟨⟨_,_,rfl,A⟩,E⟩
theorem xK (u1 u2 u3:Value)(key c d:List UInt8)(w:World)(A:Rd w u1 key)(t:Rd w u2 c)(z:Rd w u3 d)(h:key.length=32)(y:c.length=12)(hl:d.length<=1700):
  Calls prog 172 #[u1,u2,u3] w λe w'=>(∃ v p q r,e=.returned (.tuple #[v,nU p q r,.int .i64 0])/\Rd w' v (gF key)/\kx w' p q r (fV key) (aI d) c)/\Kp w w':=by
 unfold nU;obtain⟨C,B,rfl,p2,s2⟩:=t.shape;have I:Hid (∀ W,Kp w W->Calls prog 202 #[u1] W λe w'=>(∃ a b,e=.returned (.tuple #[a,b,.int .i64 0])/\Rd w' a (gF key)/\Rd w' b (fV key))/\Kp W w'):=λW s=>by
  have:=xI u1 key W (A.kp s);rwa [show iK key=0 from if_pos h,show iL key=gF key from if_pos h,show iM key=fV key from if_pos h] at this
 have f:=(jU (x:=d) (by omega)).1;have H:Hid (∀ W,Kp w W->Calls prog 166 #[u3] W λe w'=>∃ aa,e=.returned (.tuple #[aa,.int .i64 0])/\Ow 5 w' W.heap.size aa (aI d)/\Kp W w'):=λW s=>by
  have:=rg u3 d W (z.kp s);rwa [f] at this
 have J:=Lib.hid t;have u:=Lib.hid (One.new 24 w (.slice C c.length B));rw[y] at J u p2 ⊢;clear A t z f h y;go_enter func172,ntmps172;go_wp2_with fail;refine(I.out _ ((Kp.refl w).alloc _)).mono ?_;rintro _ j ⟨⟨a,b,rfl,l,k⟩,o⟩;have i:=Lib.hid (((Kp.refl w).alloc (.cells #[.slice C 12 B] 24)).trans o);have G:=Lib.hid (u.out.kp o);have E:=Lib.hid l;have D:=Lib.hid k;have F:=Lib.hid (λT=>One.new T j b);obtain⟨X,nb,cb,rfl⟩:=k.sl;obtain⟨Y,na,ca,rfl⟩:=l.sl;clear u o l k;go_wp2_with fail;refine(H.out _ (i.out.alloc _)).mono ?_;rintro _ w2 ⟨Z,rfl,m,n⟩;have g:Kp j w2:=((Kp.refl j).alloc _).trans n;have N:=Lib.hid ((F.out _).kp n);have O:=Lib.hid (G.out.kp g);have P:=Lib.hid (i.out.trans g);have V:=Lib.hid (E.out.kp g);have U:=Lib.hid (D.out.kp g);have S:=Lib.hid m.rd;have R:=Lib.hid (J.out.kp (i.out.trans g));obtain⟨K,L,M,rfl⟩:=m.rd.sl;have Q:=Lib.hid (One.new 24 w2 (.slice K L M));clear m n g F G i E D H I;go_wp2_with fail;go_ret3
 exact⟨⟨_,_,_,_,rfl,V.out.kp ((Kp.refl _).alloc _),⟨_,_,N.out.kp ((Kp.refl _).alloc _),U.out.kp ((Kp.refl _).alloc _)⟩,⟨_,_,Q.out,S.out.kp ((Kp.refl _).alloc _)⟩,⟨_,_,O.out.kp ((Kp.refl _).alloc _),R.out.kp ((Kp.refl _).alloc _)⟩⟩,P.out.alloc _⟩
theorem xL (u1 u2 u3:Value)(key c i:List UInt8)(w:World)(n:Rd w u1 key)(m:Rd w u2 c)(s:Rd w u3 i)(d:¬okK key c):
  Calls prog 172 #[u1,u2,u3] w λe w'=>e=.returned (.tuple #[.slice none 0 0,.nilFunc,.int .i64 1])/\Kp w w':=by
 obtain⟨u,t,rfl,p2,A⟩:=m.shape;by_cases g:c.length=12
 ·have f:¬key.length=32:=λh=>d ⟨h,g⟩
  have o:Hid (∀ W,Kp w W->Calls prog 202 #[u1] W λe w'=>(∃ a b,e=.returned (.tuple #[a,b,.int .i64 1])/\Rd w' a []/\Rd w' b [])/\Kp W w'):=λW r=>by
   have:=xI u1 key W (n.kp r);rwa [show iK key=1 from if_neg f,show iL key=[] from if_neg f,show iM key=[] from if_neg f] at this
  rw[g] at p2 ⊢;clear n m s f d g;go_enter func172,ntmps172;go_wp2_with fail;refine(o.out _ ((Kp.refl w).alloc _)).mono ?_;rintro _ z ⟨⟨a,b,rfl,k,j⟩,l⟩;have v:=Lib.hid (((Kp.refl w).alloc (.cells #[.slice u 12 t] 24)).trans l);obtain⟨x,B,D,rfl⟩:=j.sl;obtain⟨y,C,E,rfl⟩:=k.sl;clear l k j o;go_wp2_with fail;go_ret3
  exact⟨rfl,v.out.alloc _⟩
 ·have q:((c.length:Int)==12)=false:=Jd.2 (by omega)
  have p:¬(c.length:Int)=12:=by omega
  go_enter func172,ntmps172;go_wp2_with fail;go_ret3
  exact⟨rfl,(Kp.refl _).alloc _⟩
theorem Fm (aa:Value)(key:List UInt8)(w:World)(g:Rd w aa key):
  Calls prog 152 #[aa] w λe w'=>(∃ a b,e=.returned (.tuple #[a,b,.int .i64 (iK key)])/\Rd w' a (iL key)/\Rd w' b (iM key))/\Kp w w':=by
 obtain⟨p,o,rfl,x,A⟩:=g.shape;by_cases c:key.length=32
 ·have j:iK key=0:=if_pos c
  have i:iL key=bU key lF [] 16:=if_pos c;have h:iM key=bU key lG [] 32:=if_pos c;rw[j,i,h];have f:Hid (∀ W,Kp w W->Calls prog 63 #[.slice p key.length o,.string ⟨#[108,111,99,107]⟩,.slice none 0 0,.int .i64 16] W λe w'=>(∃ v,e=.returned (.tuple #[v,.int .i64 0])/\Rd w' v (bU key lF [] 16))/\Kp W w'):=λW l=>nR _ ⟨#[108,111,99,107]⟩ _ key [] 16 W (g.kp l) (Rd.nil W) (by decide) (by simp) (by omega)
  have d:Hid (∀ W,Kp w W->Calls prog 63 #[.slice p key.length o,.string ⟨#[116,97,103]⟩,.slice none 0 0,.int .i64 32] W λe w'=>(∃ v,e=.returned (.tuple #[v,.int .i64 0])/\Rd w' v (bU key lG [] 32))/\Kp W w'):=λW l=>nR _ ⟨#[116,97,103]⟩ _ key [] 32 W (g.kp l) (Rd.nil W) (by decide) (by simp) (by omega)
  rw[c] at f d x ⊢;clear g c j i h;go_enter func152,ntmps152;go_wp2_with fail;refine(f.out w (Kp.refl w)).mono ?_;rintro _ q ⟨⟨z,rfl,s⟩,n⟩;go_wp2_with fail;refine(d.out q n).mono ?_;rintro _ w2 ⟨⟨y,rfl,r⟩,m⟩;have k:=s.kp m;go_wp2_with fail;go_ret3
  exact⟨⟨_,_,rfl,k,r⟩,n.trans m⟩
 ·have j:iK key=1:=if_neg c
  have i:iL key=[]:=if_neg c;have h:iM key=[]:=if_neg c;rw[j,i,h];have u:((key.length:Int)==32)=false:=Jd.2 (by omega);have t:¬(key.length:Int)=32:=by omega
  go_enter func152,ntmps152;go_wp2_with fail;go_ret3
  exact⟨⟨_,_,rfl,Rd.nil _,Rd.nil _⟩,Kp.refl _⟩
theorem Fo (u1 u2 u3 u4:Value)(key a c b:List UInt8)(w:World)(y:Rd w u1 key)(p:Rd w u2 a)(v:Rd w u3 c)(o:Rd w u4 b)(m:key.length<=2000)(H:a.length+c.length+b.length<=1800):
  Calls prog 154 #[u1,u2,u3,u4] w λe w'=>(∃ r,e=.returned r/\Ow 5 w' w.heap.size r (dZ key (nD a c b)))/\Kp w w':=by
 obtain⟨N,G,K,rfl⟩:=p.sl;obtain⟨M,F,J,rfl⟩:=o.sl;have f:=(jU (x:=c) (by omega)).1;have h:=lj (x:=c) (by omega);have l:=jZ c.length;have d:=Lib.hid (pd u3 c w v);rw[f] at d;have z:Hid ([aI c,a,b].flatten=nD a c b):=by simp[Hid,nD]
 have i:([aI c,a,b].flatten).length<=1900:=by
  rw[z.out];unfold nD;rw[Jc,Jc];omega
 have t:=Lib.hid i;clear f h l i;go_enter func154,ntmps154;go_wp2_with fail;refine d.out.mono ?_;rintro _ A ⟨D,rfl,j,g⟩;have q:=y.kp g;obtain⟨L,E,I,rfl⟩:=j.rd.sl;have s:=Lib.hid (RL.lit3 (w:=A) (T:=24) j.rd (p.kp g) (o.kp g));clear y p v o j d;go_wp2_with fail;refine(DV _ _ key [aI c,a,b] _ (q.kp ((Kp.refl _).alloc _)) s.out m t.out (by simp)).mono ?_;rw[z.out];rintro _ w2 ⟨⟨r,rfl,u⟩,B⟩;have C:=g.size;have k:=u.mono (B':=w.heap.size) (by simp;omega);have n:=(g.alloc _).trans B;clear u;go_wp2_with fail;go_ret;exact⟨⟨_,rfl,k⟩,n⟩
theorem Fp {key:List UInt8}(h:key.length=32):iK key=0/\iL key=gF key/\iM key=fV key:=⟨if_pos h,if_pos h,if_pos h⟩
theorem Fq {key:List UInt8}(h:¬key.length=32):iK key=1/\iL key=[]/\iM key=[]:=⟨if_neg h,if_neg h,if_neg h⟩
theorem sJ {key:List UInt8}(b:List UInt8)(h:a.length=12):ji (gF key) a=0/\jj (gF key) a b=cV key a b:=
 ⟨if_pos ⟨vI key,h⟩,if_pos ⟨vI key,h⟩⟩
theorem Fr (u1 u2 u3 u4:Value)(key a c b:List UInt8)(w:World)(h1:Rd w u1 key)(J:Rd w u2 a)(h3:Rd w u3 c)(h4:Rd w u4 b)(hl:c.length+b.length<=1700):
  Calls prog 114 #[u1,u2,u3,u4] w λe w'=>(∃ r,e=.returned (.tuple #[r,.int .i64 (jk key a)])/\Rd w' r (jl key a c b)/\ba w.heap.size r)/\Kp w w':=by
 have U:=aj;obtain⟨a2,c2,rfl,p2,s2⟩:=J.shape;have z:=Lib.hid (Fm u1 key w h1);by_cases j:key.length=32
 ·obtain⟨N,M,K⟩:=Fp j
  rw[N,M,K] at z;by_cases i:a.length=12
  ·have u:jk key a=0:=if_pos ⟨j,i⟩
   have q:jl key a c b=eR key a c b:=if_pos ⟨j,i⟩;rw[u,q];obtain⟨e6,e7⟩:=sJ (key:=key) b i;have HS:Hid (∀ W v,Kp w W->Rd W v (gF key)->Calls prog 153 #[v,.slice a2 a.length c2,u4] W λe w'=>(∃ r,e=.returned (.tuple #[r,.int .i64 0])/\Rd w' r (cV key a b))/\Kp W w'):=λW v G X=>by
    rw[<-e6,<-e7];exact Fl _ _ _ _ a b W X (J.kp G) (h4.kp G) (by omega)
   have ab:=pk key a b;have HT:Hid (∀ W v s,Kp w W->Rd W v (fV key)->Rd W s (cV key a b)->Calls prog 154 #[v,.slice a2 a.length c2,u3,s] W λe w'=>(∃ r,e=.returned r/\Ow 5 w' W.heap.size r (dS key a c (cV key a b)))/\Kp W w'):=λW v s G X hs=>
    Fo _ _ _ _ (fV key) a c _ W X (J.kp G) (h3.kp G) hs (by rw[rE];omega) (by omega)
   have HD:Hid (cV key a b++dS key a c (cV key a b)=eR key a c b):=rfl;have H:=vJ key a c (cV key a b);rw[i] at HS HT p2 ⊢;have D:(cV key a b).length<=1700:=by omega
   generalize dS key a c (cV key a b)=T at *;generalize cV key a b=L at *;generalize eR key a c b=R at *;clear h1 J h3 h4 N M K u q e6 e7 j i ab;go_enter func114,ntmps114;go_wp2_with fail;refine z.out.mono ?_;rintro _ S ⟨⟨x,y,rfl,m,l⟩,p⟩;have P:=Lib.hid p;have R2:=Lib.hid l;have R1:=Lib.hid m;clear z p m l;go_wp2_with fail;refine(HS.out S x P.out R1.out).mono ?_;rintro _ w2 ⟨⟨s,rfl,r3⟩,k2⟩;have O:=Lib.hid k2;have Z:=Lib.hid r3;clear HS k2 r3;have I:=Lib.hid D;have aa:=Lib.hid H;clear D H;obtain⟨al,ae,ai,rfl⟩:=Z.out.sl;go_wp2_with(at_builtin;first
    | (refine bz (o:=⟨some 38,_,_,_,_,_⟩) U rfl _ _ rfl w2.heap.size _ [] rfl (Ow.lit w2 _ _ 0 #[] [] (Ja _) rfl (by omega) rfl) _ L rfl (Z.out.kp ((Kp.refl _).alloc _)) (by have:=I.out;simp;omega) (by simp) ?_;intro v4 Q C F _;have n:Kp w2 Q:=Kp.grown ((Kp.refl w2).alloc _) F (λk e=>by cases e;exact Ja _);have d:Ow 5 Q w2.heap.size v4 L:=(by simpa using C);clear C F))
   have K4:=Lib.hid n;refine(HT.out Q y _ (P.out.trans (O.out.trans n)) ((R2.out.kp O.out).kp n) (Z.out.kp n)).mono ?_;rintro _ w5 ⟨⟨t,rfl,B⟩,V⟩;have r5:=B.rd;have A:=d.kp V;have E:=n.trans V;obtain⟨ak,ad,ah,rfl⟩:=r5.sl;clear d B V n;go_wp2_with(at_builtin;first
    | (refine bz (o:=⟨some 45,_,_,_,_,_⟩) U rfl _ _ rfl w2.heap.size v4 L rfl A _ T rfl r5 (by have:=I.out;have:=aa.out;omega) E.size ?_;intro v7 w7 f Y _;have k7:Kp w2 w7:=Kp.grown E Y A.own_ge;rw[HD.out] at f))
   go_ret2;exact⟨⟨_,rfl,f.rd,ba.kp (w':=w2) (λg hg=>f.own_ge g hg) (P.out.trans O.out)⟩,(P.out.trans O.out).trans k7⟩
  ·have u:jk key a=1:=if_neg (λh=>i h.2)
   have q:jl key a c b=[]:=if_neg (λh=>i h.2);rw[u,q];have ag:((a.length:Int)==12)=false:=Jd.2 (by omega);have af:¬(a.length:Int)=12:=by omega
   go_enter func114,ntmps114;go_wp2_with fail;refine z.out.mono ?_;rintro _ S ⟨⟨x,y,rfl,m,l⟩,p⟩;clear m l;go_wp2_with fail;go_ret2;exact⟨⟨_,rfl,Rd.nil _,ba.nil _ _ _⟩,p⟩
 ·obtain⟨N,M,K⟩:=Fq j
  rw[N,M,K] at z;have u:jk key a=1:=if_neg (λh=>j h.1);have q:jl key a c b=[]:=if_neg (λh=>j h.1);rw[u,q];go_enter func114,ntmps114;go_wp2_with fail;refine z.out.mono ?_;rintro _ S ⟨⟨x,y,rfl,m,l⟩,p⟩;clear m l;go_wp2_with fail;go_ret2;exact⟨⟨_,rfl,Rd.nil _,ba.nil _ _ _⟩,p⟩
theorem Rd.pre6 {a:Option Addr}(h:Rd w (.slice a n c) l)(k:Nat)(o:k<=n):Rd w (.slice a k c) (l.take k):=by
 obtain⟨r,q,e,p,m,j,g⟩:=h;simp only[Ji] at e;obtain⟨rfl,rfl,rfl⟩:=e;have b:(l.take k).length=k:=by simp;omega
 refine⟨a,c,by rw[b],by omega,m,j,λx d i f=>?_⟩;rw[b] at f;rw[g x d i (by omega),LM]
theorem Rd.post6 {g o:Nat}(h:Rd w (.slice (some ⟨g,o,none⟩) n c) l)(k m:Nat)(d:k+m=n)(a:k<c):Rd w (.slice (some ⟨g,o+k,none⟩) m (c - k)) (l.drop k):=by
 have:=h.cutAt k m (by omega) a;have b:=h.len.1;rwa [JG (by rw[Ky];omega)] at this
theorem Fs (i n:Nat)(x y z:UInt8)(p o b a c:Nat)(s r:TypeId)(w:World)(u:i<n)(t:n<=c)(q:c<=maxLen)(j:One s w p (.int .u8 (z.toNat:Int)))(k:One r w o (.slice (some ⟨b,a,none⟩) n c))
  (f:w.cell? ⟨b,a+i,none⟩=some (.int .u8 (y.toNat:Int))) (d:UInt8) (h:z ||| (x ^^^ y)=d):
  Calls prog 261 #[.int .i64 i,.int .u8 (x.toNat:Int),.pointer (some ⟨p,0,none⟩),.pointer (some ⟨o,0,none⟩)] w λe w'=>e=.returned (.tuple #[])/\∃ n,w'=(w.setCell ⟨p,0,none⟩ (.int .u8 (d.toNat:Int))).drewN n:=by
 have B:=j.cell;have A:=j.frozen;have C:=k.cell;have v:=qV x y;have g:=Bd z (x ^^^ y);rw[h] at g;unfold maxLen at q;have l:(i:Int)<(n:Int):=by omega
 have m:(0:Int)<=(i:Int):=by omega
 generalize d.toNat=Z at *;generalize (x ^^^ y).toNat=D at *;clear h;go_enter func261,ntmps261;go_wp2_with fail;go_region
 all_goals
  go_end0
  exact⟨rfl,1,rfl⟩
theorem Fu (l m:List UInt8)(k:Nat):orT l m k ||| (l.getD k 0 ^^^ m.getD k 0)=orT l m (k+1):=rfl
theorem One.drewN {T:TypeId}{v:Value}(h:One T w p v)(n:Nat):One T (w.drewN n) p v:=h.kp ((Kp.refl w).drewN n)
theorem Fv (v aa:Value)(l m:List UInt8)(p o:Nat)(s H:TypeId)(w j:World)(h:Rd w v l)(C:Rd w aa m)(r:l.length=m.length)(M:Kp w j)(t:w.heap.size<=p)
  (D:One s j p (.int .u8 0)) (K:One H j o aa) (y:o≠p):
  Calls prog 260 #[v,.func (.func 261) #[] #[.pointer (some ⟨p,0,none⟩),.pointer (some ⟨o,0,none⟩)]] j λe w'=>e=.returned (.tuple #[])/\One s w' p (.int .u8 ((orT l m l.length).toNat:Int))/\Kp w w':=by
 obtain⟨a,W,rfl,V,O⟩:=h.shape;obtain⟨X,P,rfl,B,A⟩:=C.shape;unfold maxLen at O;have S:=Lib.hid r;have G:One s j p (.int .u8 ((orT l m 0).toNat:Int)):=D;have E:l.length<=m.length:=by omega
 clear r D;go_enter func260,ntmps260;go_wp2_with fail;go_loopw[8] (λi wr=>∃ k:Nat,k<=l.length/\i=.int .i64 k/\One s wr p (.int .u8 ((orT l m k).toNat:Int))/\bg (λk=>k=p) j wr/\Kp w wr) (λi _=>(l.length - (intOf i).toNat))
 case atStart=>exact⟨0,by omega,rfl,G,bg.refl _ _,M⟩
 case round=>
  clear G;obtain⟨k,L,rfl,z,F,f⟩:=hrel;by_cases q:k<l.length
  ·obtain⟨b,I,rfl,_,d⟩:=h.at k q
   obtain⟨Q,n,rfl,_,c⟩:=C.at k (by omega);have N:=f.cell (d k q);have g:=f.cell (c k (by omega));have u:=K.same F y;have R:=Lib.hid (Fs k m.length (l.getD k 0) (m.getD k 0) (orT l m k) p o Q n P s H wr (by omega) B A z u g _ (Fu l m k));clear d c g;generalize J:l.getD k 0=x at *;clear J;go_wp2_with(go_at_call 261;refine R.out.mono ?_;rintro e T ⟨rfl,U,rfl⟩)
   go_roundw
   case rel=>exact⟨k+1,by omega,by go_num,(z.set _).drewN _,(F.setCell _ _ rfl).drewN _,Kp.drewN (Below.setCell f t _) _⟩
   case measure=>simp[intOf];omega
  ·obtain rfl:k=l.length:=by omega
   go_wp2_with fail;go_end0
   exact⟨rfl,z,f⟩
theorem Fw (aa v:Value)(l m:List UInt8)(w:World)(h:Rd w aa l)(q:Rd w v m):
  Calls prog 233 #[aa,v] w λe w'=>e=.returned (.bool (decide (l=m)))/\Kp w w':=by
 obtain⟨a,c,rfl,C,r⟩:=h.shape;obtain⟨i,g,rfl,s,o⟩:=q.shape;unfold maxLen at r o;have d:One 24 (w.alloc (.cells #[.slice i m.length g] 24)) w.heap.size (.slice i m.length g):=One.new _ _ _;have y:=Lib.hid d;have D:=d.cell;clear d;by_cases b:l.length=m.length
 ·have u:((l.length:Int) != (m.length:Int))=false:=by simp[b]
  have t:(l.length != m.length)=false:=by simp[b]
  have A:=Lib.hid (Bg l m b);have z:=Lib.hid b;clear b;go_enter func233,ntmps233;go_wp2_with fail;have k:One 5 ((w.alloc (.cells #[.slice i m.length g] 24)).alloc (.cells #[.int .u8 0] 5)) (w.heap.size+1) (.int .u8 0):=by
   have:=One.new 5 (w.alloc (.cells #[.slice i m.length g] 24)) (.int .u8 0);rwa [Jn] at this
  refine(Fv _ _ l m (w.heap.size+1) w.heap.size _ _ w _ h q z.out (((Kp.refl _).alloc _).alloc _) (by omega) k (y.out.kp ((Kp.refl _).alloc _)) (by omega)).mono ?_;rintro e B ⟨rfl,j,n⟩;have E:=j.cell;have p:((((orT l m l.length).toNat:Nat):Int)==0)=decide (l=m):=by
   rw[<-A.out,Bool.eq_iff_iff];simp[<-UInt8.toNat_inj]
  generalize (orT l m l.length).toNat=Z at *;have x:=Lib.hid p;clear p;go_wp2_with fail;go_ret;exact⟨by rw[<-x.out];rfl,n⟩
 ·have u:((l.length:Int) != (m.length:Int))=true:=by simp;omega
  have t:(l.length != m.length)=true:=by simp[b]
  have f:decide (l=m)=false:=Jr (λe=>b (by rw[e]));rw[f];clear f b;go_enter func233,ntmps233;go_wp2_with fail;go_ret;exact⟨rfl,(Kp.refl _).alloc _⟩
theorem Fx (u1 u2 u3 u4:Value)(key d f b:List UInt8)(w:World)(t:Rd w u1 key)(j:Rd w u2 d)(o:Rd w u3 f)(F:Rd w u4 b)(hl:f.length+b.length<=1700):
  Calls prog 139 #[u1,u2,u3,u4] w λe w'=>(∃ r,e=.returned (.tuple #[r,.int .i64 (jk key d)])/\Rd w' r (jl key d f b)/\ba w.heap.size r)/\Kp w w':=by
 by_cases h:okK key d
 ·obtain⟨n,i⟩:=h
  have l:jk key d=0:=if_pos ⟨n,i⟩;have k:jl key d f b=eR key d f b:=if_pos ⟨n,i⟩;rw[l,k];obtain⟨X,V⟩:=sJ (key:=key) b i;have u:=Lib.hid (xK u1 u2 u3 key d f w t j o n i (by omega));have HS:Hid (∀ W v,Kp w W->Rd W v (gF key)->Calls prog 173 #[v,u2,u4] W λe w'=>(∃ r,e=.returned (.tuple #[r,.int .i64 0])/\Rd w' r (cV key d b))/\Kp W w'):=λW v U C=>by
   rw[<-X,<-V];exact yb _ _ _ _ d b W C (j.kp U) (F.kp U) (by omega)
  have J:=pk key d b;have D:=lj (x:=f) (by omega);have E:=jZ f.length;have HT:Hid (∀ W v p q r,kx W p q r (fV key) (aI f) d->Rd W v (cV key d b)->Calls prog 203 #[v,.pointer (some ⟨p,0,none⟩),.pointer (some ⟨q,0,none⟩),.pointer (some ⟨r,0,none⟩)] W λe w'=>(∃ a c,e=.returned (.slice a 32 c)/\Rd w' (.slice a 32 c) (dS key d f (cV key d b)))/\Kp W w'):=λW v p q r ht C=>
   xJ p q r v (fV key) (aI f) d _ W ht C (by rw[rE];omega) (by omega)
  have K:Hid (([cV key d b,dS key d f (cV key d b)]:List (List UInt8)).flatten=eR key d f b):=by simp[Hid,eR]
  have HL:=Lib.hid (rF key d f b);have M:Hid (b.length<=1700):=by unfold Hid;omega
  generalize dS key d f (cV key d b)=T at *;generalize cV key d b=L at *;generalize eR key d f b=R at *;clear t j o F l k X V n i J D E hl;go_enter func139,ntmps139;go_wp2_with fail;refine u.out.mono ?_;rintro _ O ⟨⟨x,p,q,r,rfl,Q,t1⟩,m⟩;unfold nU;have H:=Lib.hid m;have R1:=Lib.hid Q;have Z:=Lib.hid t1;clear u m Q t1;go_wp2_with fail;refine(HS.out O x H.out R1.out).mono ?_;rintro _ w2 ⟨⟨s,rfl,y⟩,B⟩;obtain⟨a3,n3,c3,rfl⟩:=y.sl;have Y:=Lib.hid (Z.out.kp B);have K2:=Lib.hid (H.out.trans B);have G:=Lib.hid y;clear HS B y Z R1 H;go_wp2_with fail;refine(HT.out w2 _ p q r Y.out G.out).mono ?_;rintro _ N ⟨⟨ab,aa,rfl,P⟩,A⟩;have K3:=Lib.hid (K2.out.trans A);have I:=Lib.hid (RL.lit2 (w:=N) (T:=24) (G.out.kp A) P);clear HT A P Y G K2;go_wp2_with fail;refine(lA _ _ _ I.out (by rw[K.out,HL.out];omega) (by rw[K.out,HL.out];have:=M.out;omega) (by simp)).mono ?_;rw[K.out];rintro _ w4 ⟨⟨v,rfl,z⟩,S⟩;have r5:=z.rd;have n5:ba w.heap.size v:=ba.kp (w':=N.alloc _) (λg hg=>z.own_ge g hg) (K3.out.alloc _);have k5:=(K3.out.alloc _).trans S;clear z S;go_wp2_with fail;go_ret2;exact⟨⟨_,rfl,r5,n5⟩,k5⟩
 ·have l:jk key d=1:=if_neg h
  have k:jl key d f b=[]:=if_neg h;rw[l,k];have u:=Lib.hid (xL u1 u2 u3 key d f w t j o h);clear t j o F l k h;go_enter func139,ntmps139;go_wp2_with fail;refine u.out.mono ?_;rintro _ O ⟨rfl,m⟩;go_wp2_with fail;go_ret2;exact⟨⟨_,rfl,Rd.nil _,ba.nil _ _ _⟩,m⟩
theorem Fy (u1 u2 u3 u4:Value)(key d f b:List UInt8)(w:World)(E:Rd w u1 key)(A:Rd w u2 d)(D:Rd w u3 f)(t:Rd w u4 b)(hl:f.length+b.length<=1700):
  Calls prog 194 #[u1,u2,u3,u4] w λe w'=>(∃ r,e=.returned (.tuple #[r,.int .i64 (fH key d f b)])/\Rd w' r (fW key d f b))/\Kp w w':=by
 by_cases g:okK key d
 ·obtain⟨V,K⟩:=id g
  have H:=Lib.hid (xK u1 u2 u3 key d f w E A D V K (by omega));obtain⟨a4,F,rfl,p4,s4⟩:=t.shape;by_cases P:b.length<32
  ·have i:fH key d f b=3:=by unfold fH;rw[if_pos g,if_pos P]
   have o:fW key d f b=[]:=by unfold fW;rw[i];rfl
   rw[i,o];have q0:IntKind.i64.wrap ((b.length:Int) - 32)=(b.length:Int) - 32:=IW _ (by omega);have q1:(b.length:Int) - 32<0:=by omega
   clear E A D t i o g V K hl;go_enter func194,ntmps194;go_wp2_with fail;refine H.out.mono ?_;rintro _ I ⟨⟨x,p,q,r,rfl,J,t1⟩,u⟩;unfold nU;clear J t1;go_wp2_with fail;go_ret2;exact⟨⟨_,rfl,Rd.nil _⟩,u⟩
  ·obtain⟨n,s⟩:∃ n,b.length - 32=n:=⟨_,rfl⟩
   have C:b.length=n+32:=by omega
   obtain⟨X,M,rfl,_,_⟩:=t.at 0 (by omega);have i:fH key d f b=if dS key d f (b.take n)=b.drop n then 0 else 5:=by unfold fH;rw[if_pos g,if_neg P,s]
   have o:fW key d f b=if dS key d f (b.take n)=b.drop n then cV key d (b.take n) else []:=by
    unfold fW;rw[i,s];by_cases k:dS key d f (b.take n)=b.drop n
    ·rw[if_pos k,if_pos rfl,if_pos k]
    ·rw[if_neg k,if_neg (by decide),if_neg k]
   have S:(b.take n).length=n:=by rw[Jv];omega
   have HA:=Lib.hid (t.pre6 n (by omega));have HZ:=Lib.hid (t.post6 n 32 (by omega) (by omega));obtain⟨e6,e7⟩:=sJ (key:=key) (b.take n) K;have Q:=lj (x:=f) (by omega);have U:=jZ f.length;have HS:Hid (∀ W v,Kp w W->Rd W v (gF key)->Calls prog 173 #[v,u2,.slice (some ⟨X,M,none⟩) n F] W λe w'=>(∃ r,e=.returned (.tuple #[r,.int .i64 0])/\Rd w' r (cV key d (b.take n)))/\Kp W w'):=λW v y O=>by
    rw[<-e6,<-e7];exact yb _ _ _ _ d (b.take n) W O (A.kp y) (HA.out.kp y) (by omega)
   have HT:Hid (∀ W p q r,Kp w W->kx W p q r (fV key) (aI f) d->Calls prog 203 #[.slice (some ⟨X,M,none⟩) n F,.pointer (some ⟨p,0,none⟩),.pointer (some ⟨q,0,none⟩),.pointer (some ⟨r,0,none⟩)] W λe w'=>(∃ a c,e=.returned (.slice a 32 c)/\Rd w' (.slice a 32 c) (dS key d f (b.take n)))/\Kp W w'):=λW p q r y k=>
    xJ p q r _ (fV key) (aI f) d _ W k (HA.out.kp y) (by rw[rE];omega) (by omega)
   rw[i,o];have h:∀ (j:Bool),decide (dS key d f (b.take n)=b.drop n)=j->(if dS key d f (b.take n)=b.drop n then (0:Int) else 5)=(if j then 0 else 5)/\(if dS key d f (b.take n)=b.drop n then cV key d (b.take n) else [])=(if j then cV key d (b.take n) else []):=by
    rintro _ rfl;by_cases k:dS key d f (b.take n)=b.drop n
    ·simp[k]
    ·simp[k]
   obtain⟨j,l⟩:∃ j,decide (dS key d f (b.take n)=b.drop n)=j:=⟨_,rfl⟩;rw[(h j l).1,(h j l).2];have G:Hid (∀ W v,Kp w W->Rd W v (dS key d f (b.take n))->Calls prog 233 #[v,.slice (some ⟨X,M+n,none⟩) 32 (F - n)] W λe w'=>e=.returned (.bool j)/\Kp W w'):=λW v y O=>by
    have:=Fw v _ _ _ W O (HZ.out.kp y);rwa [l] at this
   clear HA HZ;obtain⟨m,R⟩:∃ m,b.length=m:=⟨_,rfl⟩;rw[R] at p4 ⊢;rw[R] at C;have i0:IntKind.i64.wrap ((m:Int) - 32)=(n:Int):=by rw[IW _ (by omega)];omega
   have i2:(n:Int)<=(F:Int):=by omega
   have i3:(n:Int)<=(m:Int):=by omega
   have i4:¬(m:Int)<32:=by omega
   have i5:(0:Int)<=(n:Int):=by omega
   have i6:(m:Int)<=(F:Int):=by omega
   have i7:(0:Int)<=(m:Int):=by omega
   have i8:m - n=32:=by omega
   have i9:((m:Int) - (n:Int)).toNat=32:=by omega
   have ab:(m:Int) - (n:Int)=32:=by omega
   have aa:¬(n:Int)<0:=by omega
   clear R;generalize dS key d f (b.take n)=T at *;generalize cV key d (b.take n)=L at *;clear E A D t i o e6 e7 V K h l g P s S C Q U hl;go_enter func194,ntmps194;go_wp2_with fail;refine H.out.mono ?_;rintro _ I ⟨⟨x,p,q,r,rfl,J,t1⟩,u⟩;unfold nU;have K1:=Lib.hid u;have R1:=Lib.hid J;have T1:=Lib.hid t1;clear H u J t1;go_wp2_with fail;go_region
   go_wp2_with fail;refine(HT.out _ p q r (K1.out.drew) (T1.out.kp (Kp.refl _).drew)).mono ?_;rintro _ w2 ⟨⟨ae,ad,rfl,r3⟩,B⟩;have B:Kp I w2:=((Kp.refl I).drew).trans B;have Z:=Lib.hid (K1.out.trans B);have R2:=Lib.hid (R1.out.kp B);have R3:=Lib.hid r3;clear r3 B K1 R1 T1 HT;go_wp2_with fail;refine(G.out _ _ Z.out R3.out).mono ?_;rintro _ w3 ⟨rfl,N⟩;have Y:=Lib.hid (Z.out.trans N);have R4:=Lib.hid (R2.out.kp N);clear N Z R2 R3 G;cases j
   ·go_wp2_with fail
    go_ret2;exact⟨⟨_,rfl,Rd.nil _⟩,Y.out⟩
   ·go_wp2_with fail
    refine(HS.out _ x Y.out R4.out).mono ?_;rintro _ w4 ⟨⟨z,rfl,r4⟩,k4⟩;have R5:=Lib.hid r4;have K4:=Lib.hid (Y.out.trans k4);clear r4 k4;go_wp2_with fail;go_ret2;exact⟨⟨_,rfl,R5.out⟩,K4.out⟩
 ·have i:fH key d f b=1:=if_neg g
  have o:fW key d f b=[]:=by unfold fW;rw[i];rfl
  rw[i,o];have H:=Lib.hid (xL u1 u2 u3 key d f w E A D g);clear E A D t i o g;go_enter func194,ntmps194;go_wp2_with fail;refine H.out.mono ?_;rintro _ I ⟨rfl,u⟩;go_wp2_with fail;go_ret2;exact⟨⟨_,rfl,Rd.nil _⟩,u⟩
