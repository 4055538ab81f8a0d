import Derived.Test.YthmhklmkgkfcpaaGreatDoorV4
import Derived.Deep.Slices
import Derived.Laws.AppendOwn
import Derived.Deep.RegionLaw
import Derived.Lib.AppendZerosOnto
set_option linter.all false
set_option maxHeartbeats 8000000
set_option maxRecDepth 100000
namespace Go.Proofs.YthmhklmkgkfcpaaGreatDoor
open Go.Proofs.Tryz Go.RowKit
variable {B K c p:Nat}{P:Program}{Q:Exit->Act->World->Prop}{T e:TypeId}{a:Option Addr}{b x:List UInt8}{ls:List (List UInt8)}{n:Int}{o:Oper}{t:List Nod}{us:List Value}{v:Value}{w w':World}
section
open Go.ChangeShapes Go.Deep Go.WideShapes
section
variable {H : Type} {enc : TypeId × Value -> H} {P : Program} {w : World} {base : Nat} {spare : Nat -> Bool} {held : Bool}
theorem zr (h:(Lit.int .u8 n).wf=true):0<=n/\n<256:=by
 have:=bounds_u8 h;omega
theorem Rd.of_cells {t:TypeId}{d:Nat}{cs:List Value}{x:DataW H × List MemPlace}(j:P.underlying t=some (.slice e))(m:P.underlying e=some (.int .u8))(n:P.cellsOf e=1)
  (h:DataW.trod enc P w base spare held d t cs=some x):∃ v l,cs=[v]/\Rd w v l:=by
 rcases open_ints j m n h with⟨rfl,_⟩|⟨a,len,cap,zs,rfl,_,hl,hm,hz,_,hcell,hwz⟩
 ·exact⟨_,[],rfl,none,0,rfl,IB _,IO _,λ_=>rfl,λy f=>by cases f⟩
 ·have g:len<=zs.length:=by rw[hz];split <;> omega
  have b:((zs.take len).map λz=>UInt8.ofNat z.toNat).length=len:=by simp;omega
  refine⟨_,(zs.take len).map λz=>UInt8.ofNat z.toNat,rfl,some a,cap,by rw[b],by omega,hm,λh=>(by cases h),λy f i k=>?_⟩;cases f;rw[b] at k;rw[hcell i (by omega)];have c:i<zs.length:=by omega
  have o:=zr (hwz (zs[i]'c) (Jg c));simp[Iw,Iy c];omega
theorem Rd.of_one {t:TypeId}{a:Nat}{x:DataW H × List MemPlace}(b:P.underlying t=some (.slice e))(c:P.underlying e=some (.int .u8))(d:P.cellsOf e=1)
  (h:DataW.trod enc P w base spare held a t [v]=some x):∃ l,Rd w v l:=by
 obtain⟨f,l,e,h⟩:=Rd.of_cells b c d h;cases e;exact⟨l,h⟩
theorem sW {α:Type}[Inhabited α](n:Nat)(Q:Nat->α->Prop)(h:∀ i,i<n->∃ x,Q i x)(d:α):∃ l:List α,l.length=n/\∀ i,i<n->Q i (l.getD i d):=by
 induction n with
 | zero=>exact⟨[],rfl,λi b=>by omega⟩
 | succ n ih=>
  obtain⟨l,a,f⟩:=ih λi b=>h i (by omega)
  obtain⟨x,e⟩:=h n (by omega)
  refine⟨l++[x],by simp[a],λi b=>?_⟩
  rcases Nat.lt_or_ge i n with c|c
  ·rw[Iw,Jh (by omega),<-Iw]
   exact f i c
  ·have:i=n:=by omega
   subst this
   rw[Iw,Jd (by omega),a,Lb]
   exact e
end
def cJ (w:World)(v:Value)(us:List Value):Prop:=
 ∃ a c,v=.slice a us.length c/\us.length<=c/\c<=maxLen/\(a=none->c=0) /\
  ∀ x,a=some x->∀ i,(h:i<us.length)->w.cell? (x.add i)=some (us[i]'h)
theorem cJ.kp (h:cJ w v us)(k:Kp w w'):cJ w' v us:=by
 obtain⟨a,c,rfl,j,g,f,e⟩:=h;exact⟨a,c,rfl,j,g,f,λx b i d=>k.cell (e x b i d)⟩
theorem cJ.shape (h:cJ w v us):∃ a c,v=.slice a us.length c/\us.length<=c/\c<=maxLen:=by
 obtain⟨a,c,e,d,b,_⟩:=h;exact⟨a,c,e,d,b⟩
theorem cJ.nil (w:World):cJ w (.slice none 0 0) []:=⟨none,0,rfl,IB _,IO _,λ_=>rfl,λx a=>by cases a⟩
theorem cJ.at {n:Nat}(h:cJ w (.slice a n c) us)(k:Nat)(p:k<n):
  ∃ b d,a=some ⟨b,d,none⟩/\b<w.heap.size/\∀ i,i<n->w.cell? ⟨b,d+i,none⟩=some (us.getD i (.bool false)):=by
 obtain⟨t,s,e,r,q,o,j⟩:=h
 simp only[IG] at e
 obtain⟨rfl,rfl,rfl⟩:=e
 cases a with
 | none=>have:=o rfl;omega
 | some x=>
  obtain⟨b,d,f⟩:=x
  have l:=j _ rfl 0 (by omega)
  have m:f=none:=by simpa [Addr.add] using Lu l
  subst m
  refine⟨b,d,rfl,Jb w _ l,λi g=>?_⟩
  have:=j _ rfl i g
  rw[Iw,Iy g,Lh,<-this]
  congr 1
  unfold Addr.add
  split <;> simp_all
theorem cJ.own (h:w.ownsRow B e 1 v us.length us):cJ w v us:=by
 rcases h.2 with⟨rfl,h0⟩|⟨g,cap,cur,rfl,hb,hg,hn,hm,hs,ht⟩
 ·exact⟨none,0,by rw[h0],by omega,IO _,λ_=>rfl,λx a=>by cases a⟩
 ·refine⟨_,cap,rfl,hn,hm,λh=>(by cases h),λx a i b=>?_⟩
  cases a;have e:(⟨g,0,none⟩:Addr).add i=⟨g,i,none⟩:=by unfold Addr.add;split <;> simp_all
  rw[e,cell_of_row w g i _ _ _ hg];have a:us[i]?=some us[i]:=Iy b;rw[<-a,<-ht,Kz (by omega)];simp
def RL (w:World)(v:Value)(ls:List (List UInt8)):Prop:=∃ us,cJ w v us/\us.length=ls.length/\∀ i,i<ls.length->Rd w (us.getD i (.bool false)) (ls.getD i [])
theorem RL.kp (h:RL w v ls)(k:Kp w w'):RL w' v ls:=by
 obtain⟨us,d,c,b⟩:=h;exact⟨us,d.kp k,c,λi a=>(b i a).kp k⟩
theorem RL.shape (h:RL w v ls):∃ a c,v=.slice a ls.length c/\ls.length<=c/\c<=maxLen:=by
 obtain⟨us,d,b,e⟩:=h;rw[<-b];exact d.shape
theorem RL.at {n:Nat}(h:RL w (.slice a n c) ls)(k:Nat)(g:k<n):
  ∃ b d,a=some ⟨b,d,none⟩/\b<w.heap.size/\∀ i,i<n->∃ u,w.cell? ⟨b,d+i,none⟩=some u/\Rd w u (ls.getD i []):=by
 obtain⟨us,f,r,p⟩:=h;obtain⟨b,d,o,m,l⟩:=f.at k g;have q:n=us.length:=by
  obtain⟨t,s,e,_⟩:=f.shape;simp only[IG] at e;exact e.2.1
 exact⟨b,d,o,m,λi j=>⟨_,l i j,p i (by omega)⟩⟩
theorem RL.cons {u:Value}{l:List UInt8}(h:w.ownsRow B e 1 v (u :: us).length (u :: us))(a:Rd w u l)(c:us.length=ls.length)
  (b:∀ i,i<ls.length->Rd w (us.getD i (.bool false)) (ls.getD i [])):RL w v (l :: ls):=by
 refine⟨u :: us,cJ.own h,by simp[c],λi d=>?_⟩
 cases i with
 | zero=>simpa using a
 | succ i=>simpa using b i (by simpa using d)
section
variable {H : Type} {enc : TypeId × Value -> H} {P : Program} {w : World} {base : Nat} {spare : Nat -> Bool} {held : Bool}
end
end
def eH (n w:Int):Prop:=1<=w/\w<=7/\0<=n/\n<256 ^ w.toNat
instance (n w:Int):Decidable (eH n w):=by unfold eH;infer_instance
def iE (n w:Int):Int:=if eH n w then 0 else 1
def eP (n w:Int):List UInt8:=if eH n w then be w.toNat n.toNat else []
def et (n:Int):Int:=if n<0\/1073741823<n then 1 else 0
def cm (n:Nat):List UInt8:=if n<64 then be 1 n else if n<16384 then be 2 (n+16384) else be 4 (n+2147483648)
def dm (n:Int):List UInt8:=if et n=0 then cm n.toNat else []
def iY (c:Nat):Nat:=if c<64 then 1 else if c<128 then 2 else 4
def tc (w:Nat)(l:List UInt8):Int:=if w=1 then val l else if w=2 then val l - 16384 else val l - 2147483648
def tlE (b:List UInt8)(at':Int):Int:=
 if at'<0\/b.length<at' then 1 else if (b.length:Int)=at' then 3 else
 let c:=(b.getD at'.toNat 0).toNat
 if 192<=c then 2 else if b.length - at'<iY c then 3 else
 let n:=tc (iY c) ((b.drop at'.toNat).take (iY c))
 if (iY c=2/\n<64)\/(iY c=4/\n<16384) then 2 else 0
def tlN (b:List UInt8)(at':Int):Int:=if tlE b at'=0 then let c:=(b.getD at'.toNat 0).toNat;tc (iY c) ((b.drop at'.toNat).take (iY c)) else 0
def tlP (b:List UInt8)(at':Int):Int:=if tlE b at'=0 then at'+iY (b.getD at'.toNat 0).toNat else 0
def gR (x:List UInt8):Int:=et x.length
def aO (x:List UInt8):List UInt8:=if gR x=0 then cm x.length++x else []
theorem iZ {w:Int}(h:eH n w):iE n w=0/\eP n w=be w.toNat n.toNat:=by simp[iE,eP,h]
theorem kn {w:Int}(h:¬eH n w):iE n w=1/\eP n w=[]:=by simp[iE,eP,h]
theorem zM (n:Nat):(cm n).length=if n<64 then 1 else if n<16384 then 2 else 4:=by
 unfold cm;split
 ·exact bT _ _
 ·split <;> exact bT _ _
theorem ko (h:x.length<=1073741823):gR x=0/\aO x=cm x.length++x:=by
 have e:gR x=0:=if_neg (by omega);simp[aO,e]
theorem lL (h:x.length<=1073741823):(aO x).length=(cm x.length).length+x.length:=by rw[(ko h).2,IE]
def jh (s:S8)(i:Nat):List UInt8:=(s.list.take i).flatMap ks
theorem qy (s:S8)(i:Nat)(h:i<8):jh s (i+1)=jh s i++ks (s.list.getD i 0):=by
 unfold jh;have a:i<s.list.length:=h;rw[IP a,List.flatMap_append,Iw,Iy a];simp
theorem ot (s:S8):∀ i,i<=8->(jh s i).length=4*i
 | 0,_=>rfl
 | i+1,h=>by rw[qy s i h,IE,ot s i (by omega)];simp[ks];omega
theorem tF (s:S8):s.bytes.length=32:=ot s 8 (by omega)
theorem AC (x:UInt32):∃ d c b a:UInt8,ks x=[d,c,b,a]/\IntKind.u8.wrap (aa x / 16777216)=(d.toNat:Int)/\IntKind.u8.wrap (aa x / 65536)=(c.toNat:Int)/\IntKind.u8.wrap (aa x / 256)=(b.toNat:Int)/\IntKind.u8.wrap (aa x)=(a.toNat:Int):=by
 refine⟨_,_,_,_,rfl,?_,?_,?_,?_⟩ <;> rw[JQ] <;> unfold aa <;> simp
theorem ox (s:S8)(w:World):
  Calls prog 250 #[.agg (aX s.list)] w λe w'=>(∃ v,e=.returned v/\Ow 5 w' w.heap.size v s.bytes)/\Kp w w':=by
 have U:=ag;obtain⟨B,D,j,h,g⟩:=info_parts info5;have q:B.bytes=1:=g;have r:=Lib.hid q;clear q g;have p:Arr 252 (w.alloc (.cells (aX s.list) 252)) w.heap.size s.list:=Arr.new _ w _ s.list rfl;go_enter func250,ntmps250;go_wp2_with(first
  | (at_make;refine wpList_make_own _ rfl _ _ 24 rfl w.heap.size 5 B (.int .u8 0) 1 underlying24 D j h _ _ _ 32 rfl rfl rfl ?b1 ?b2 ?b3 ?_;rotate_right;intro t a n;have d:Kp (w.alloc (.cells (aX s.list) 252)) t:=Below.grown (Below.refl _ _) n (IB _) (λk e=>by cases e);have o:=p.kp d;clear n)
  | (refine iG underlying252 (by kernel_rfl) rfl (.tmp 1) rfl w.heap.size s.list rfl o rfl ?_))
 case b1=>rw[r.out];omega
 case b2=>unfold maxLen;omega
 case b3=>simp
 have l:Ow 5 t w.heap.size (.slice (some ⟨w.heap.size+1,0,none⟩) 0 32) []:=by
  rw[IQ] at a;exact a
 have m:Kp w t:=((Kp.refl w).alloc _).trans d;clear a d p o j h D r;go_loopw[3,8] (λv i wr=>∃ k:Nat,k<=8/\i=.int .i64 k/\Ow 5 wr w.heap.size v (jh s k)/\Kp w wr) (λ_ i _=>8 - (intOf i).toNat)
 case atStart=>exact⟨0,by omega,rfl,l,m⟩
 case round=>
  clear l m;obtain⟨k,Q,rfl,a,f⟩:=hrel;by_cases c:k<8
  ·have C:∀ W,(Instr.index 252 (.agg (aX s.list)) (.int .i64 k)).run prog W=.ok (.int .u32 (aa (s.list.getD k 0))) W:=λW=>by
    obtain⟨F,A,u⟩:=tD;exact qt W 252 247 8 F _ underlying252 A u underlying247 rfl _ rfl k c _ (qm s.list k c)
   have y:=qy s k c;have b:=ot s k (by omega);generalize s.list.getD k 0=x at *;obtain⟨H,b1,b2,b3,E,O,N,M,K⟩:=AC x;rw[E] at y;generalize jh s k=L at *;have I:=Lib.hid y;have J:=Lib.hid b;clear y b E;generalize aX s.list=cs at *;go_wp2_with(at_builtin;refine cj U rfl _ _ rfl w.heap.size _ _ rfl (a.kp ((Kp.refl _).alloc _)) _ [H,b1,b2,b3] rfl (Ow.lit _ 5 0 4 _ _ (IO _) rfl (by decide) rfl).rd ?c1 ?c2 ?_;rotate_right;intro P w2 z G _)
   case c1=>rw[J.out];simp;omega
   case c2=>have:=f.size;simp;omega
   go_roundw
   case rel=>exact⟨k+1,by omega,by go_num,by rw[I.out];exact z,Kp.grown (f.alloc _) G a.own_ge⟩
   case measure=>simp[intOf];omega
  ·obtain rfl:k=8:=by omega
   go_wp2_with fail;go_ret;exact⟨⟨_,rfl,a⟩,f⟩
def unB (l:List Int):List UInt8:=l.flatMap λi=>be 2 i.toNat
def dL (n:Nod):List UInt8:=
 if n.kind=1 then [1]++be 2 n.name.toNat++aO n.pub++aO n.hash
 else if n.kind=2 then [2]++aO n.pub++aO n.hash++aO (unB n.un)
 else [0]
structure dM (n:Nod):Prop where
 kind:n.kind=0\/n.kind=1\/n.kind=2
 name:0<=n.name/\n.name<=65535
 pub:n.pub.length<=40
 hash:n.hash.length<=40
 unl:n.un.length<=100
 un:∀ i∈n.un,0<=i/\i<=1023
theorem qz (l:List Int):(unB l).length=2*l.length:=by
 unfold unB
 induction l with
 | nil=>rfl
 | cons a l ih=>rw[List.flatMap_cons,IE,ih,bT,Jf];omega
theorem AD (l:List Int)(i:Int):unB (l++[i])=unB l++be 2 i.toNat:=by
 unfold unB;rw[List.flatMap_append];simp
theorem ji (h:x.length<=1000):(aO x).length<=x.length+2:=by
 rw[lL (by omega),zM];split
 ·omega
 ·rw[if_pos (by omega)];omega
theorem oz {n:Nod}(h:dM n):(dL n).length<=300/\1<=(dL n).length:=by
 have f:=ji (x:=n.pub) (by have:=h.pub;omega);have e:=ji (x:=n.hash) (by have:=h.hash;omega);have a:=ji (x:=unB n.un) (by rw[qz];have:=h.unl;omega);have d:=h.pub;have c:=h.hash;have b:=h.unl;rw[qz] at a;unfold dL;split
 ·simp only[IE,bT,Jf,Jq];omega
 ·split
  ·simp only[IE,Jf,Jq];omega
  ·simp
def fx (n:Nod)(g:List Int):Nod:=⟨n.kind,n.name,n.pub,n.un.filter λi=>decide (i∉g),n.hash⟩
theorem dM.less {n:Nod}(h:dM n)(g:List Int):dM (fx n g):=
 ⟨h.kind,h.name,h.pub,h.hash,IU (Me _ _) h.unl,λi a=>h.un i (LU.1 a).1⟩
theorem dM.blank:dM aY:=⟨.inl rfl,by decide,by decide,by decide,by decide,λi a=>by cases a⟩
def dz (t:List Nod)(g:List Int):Nat->Nat->List UInt8
 | 0,q=>bH ([1]++be 2 q++dL (if (q:Int)∈g then aY else ats t (nd 0 q)))
 | j+1,q=>bH ([2]++dL (fx (ats t (nd (j+1) q)) g)++aO (dz t g j (2*q))++aO (dz t g j (2*q+1)))
theorem tG (l:List UInt8):(bH l).length=32:=by
 unfold bH;exact tF _
theorem qA (t:List Nod)(g:List Int)(j q:Nat):(dz t g j q).length=32:=by
 cases j <;> exact tG _
structure bq (t:List Nod)(K:Nat):Prop where
 le:K<=10
 len:t.length=2 ^ (K+1) - 1
 node:∀ x,dM (ats t x)
 par:∀ x,(ats t x).kind=2->x % 2=1
def qB (t:List Nod)(x side:Int):Int:=
 if 0<=x/\x<t.length/\0<=side/\side<=1 then (if (ats t x.toNat).kind=2 then 0 else 11) else 1
def fR (side:Int)(q:Nat):Nat:=if side=0 then 2*q+1 else 2*q
def tH (t:List Nod)(x:Nat)(side:Int):List UInt8:=
 bH ([3]++aO (ats t x).pub++aO (ats t x).hash++aO (dz t (ats t x).un (lev x - 1) (fR side (qOf x))))
def gY (t:List Nod)(x side:Int):List UInt8:=if qB t x side=0 then tH t x.toNat side else []
def dA (n:Nod)(h:List UInt8):Nod:=⟨n.kind,n.name,n.pub,n.un,h⟩
def bP (i:Nat)(s:List Nod × List UInt8)(x:Nat):List Nod × List UInt8:=
 if (ats s.1 x).kind=2 then
  (s.1.set x (dA (ats s.1 x) s.2),gY (s.1.set x (dA (ats s.1 x) s.2)) (x:Int) (if x<2*i then 1 else 0))
 else s
def ed (t:List Nod)(i:Nat):List Nod × List UInt8:=(aU t i).reverse.foldl (bP i) (t,[])
def oC (t:List Nod)(i:Int):Int:=if bd t i then 0 else 11
def eA (t:List Nod)(i:Int):List Nod:=
 if bd t i then (ed t i.toNat).1.set (2*i.toNat) (dA (ats (ed t i.toNat).1 (2*i.toNat)) (ed t i.toNat).2) else t
theorem AL {t:TypeId}(U:U8 P t e){g:Array Oper}{a:Act}{K:Act->World->Prop}{E:Prop}
  (O:o.guard=none) (s x:Operand) (u:o.op=Op.call { callee:=Callee.builtin Builtin.append,args:=#[s,x],argTypes:=#[t,t] })
  (B:Nat) (v:Value) (l:List UInt8) (L:a.eval s=v) (h:Ow e w B v l) (q:Addr) (n c:Nat) (m:List UInt8) (I:a.eval x=.slice (some q) n c) (C:Rd w (.slice (some q) n c) m)
  (D:l.length+m.length<=140737488355328) (f:B<=w.heap.size)
  (R:∀ p w',Ow e w' B p (l++m)->w.grownBy w' v.ownBlock->K (a.put o.dst p) w'):
  if Region.wanted o (yielded g a.tmps)=true then Oper.wp P o a w K Q else E:=by
 have J:Region.wanted o (yielded g a.tmps)=true:=by simp[Region.wanted,O]
 rw[if_pos J];obtain⟨i,N,r,d,A⟩:=U.hi;obtain⟨M,_,_⟩:=C.len;subst M;obtain⟨W,V,H,G,F,T,S⟩:=C;simp only[IG] at H;obtain⟨rfl,_,rfl⟩:=H;refine wp_append_own w s x t u B e i (.int .u8 0) 1 1 U.ht N r d A rfl (by decide) v l.length (Lib.byteCells l) L h q m.length c (Lib.byteCells m) I (by rw[cX];omega) (λj z y=>?_) (λz r=>?_) (by unfold maxLen;omega) (by omega) f
  (λp w' G F _=>R p w' (by unfold Ow;rw[IE,pL];exact G) F)
 ·have k:j<m.length:=by
   have:=(Jk.1 y).1;rwa [cX] at this
  rw[iz m j k] at y;cases y;exact S q rfl j k
 ·obtain⟨b,_,rfl⟩:=Ju.1 r
  rfl
theorem AM (l:List UInt8):(eQ l).length=l.length+9+fill l.length:=by unfold eQ;rw[IE,kx];omega
theorem AN (l:List UInt8):(eQ l).length=64*((eQ l).length / 64):=by
 have:=tj l.length;have h:(eQ l).length=l.length+(pad l.length).length:=by unfold eQ;rw[IE]
 omega
theorem ia (s:S8)(l:List UInt8)(k:Nat):bE s l (k+1)=lM cG (bE s l k) ((l.drop (64*k)).take 64):=by rw[bE]
theorem tK (n:Nat)(h:n<=2000):jc (n:Int)=pad n:=by
 unfold jc;rw[if_pos (by omega),IM]
theorem AO (x:Int)(s:S8)(v:Value)(b:List UInt8)(a:Nat)(d f:Nat)(k:List UInt32)(w:World)(h:Rd w v b)(i:a+64<=b.length)(j:Arr 247 w d k)(c:k.length=64)(g:x=a):
  Calls prog 226 #[.agg (aX s.list),v,.int .i64 x,.slice (some ⟨d,0,none⟩) 64 f] w λe w'=>e=.returned (.agg (aX (lM k s ((b.drop a).take 64)).list))/\Kp w w':=by
 subst g;exact Ay s v b a d f k w h i j c
theorem AP (x:UInt32):∃ d c b a:UInt8,ks x=[d,c,b,a]/\IntKind.u8.wrap (aa x / 16777216)=(d.toNat:Int)/\IntKind.u8.wrap (aa x / 65536 % 256)=(c.toNat:Int)/\IntKind.u8.wrap (aa x / 256 % 256)=(b.toNat:Int)/\IntKind.u8.wrap (aa x % 256)=(a.toNat:Int):=by
 refine⟨_,_,_,_,rfl,?_,?_,?_,?_⟩ <;> rw[JQ] <;> unfold aa <;> simp
theorem qD (v:Value)(l:List UInt8)(w:World)(h:Rd w v l)(hl:l.length<=2000):
  Calls prog 185 #[v] w λe w'=>(∃ v',e=.returned v'/\Ow 5 w' w.heap.size v' (bH l))/\Kp w w':=by
 have U:=ag;obtain⟨a,c,rfl,h1,h2⟩:=h.shape;unfold maxLen at h2;have Q:=AM l;have o:=AN l;have af:=kw l.length;obtain⟨P,hP⟩:∃ P,eQ l=P:=⟨_,rfl⟩;have Z:l++pad l.length=P:=hP;have X:bH l=(bE df P (P.length / 64)).bytes:=by unfold bH;rw[hP]
 rw[X];rw[hP] at Q o;obtain⟨N,hN⟩:∃ N,P.length / 64=N:=⟨_,rfl⟩;rw[hN] at o ⊢;have HP:=Lib.hid Z;have HL:=Lib.hid o;have aB:N<=40:=by omega
 have aA:P.length<=2600:=by omega
 have O:=tK l.length hl;have an:=Lib.hid O;have ay:=hl;clear X hP Z o Q hN O af;go_enter func185,ntmps185;go_wp2_with(first
  | (at_builtin;refine cj U rfl _ _ rfl w.heap.size _ _ rfl (Ow.lit w 5 w.heap.size 0 #[] [] (IB _) rfl (by decide) rfl) _ l rfl (h.kp ((Kp.refl w).alloc _)) ?c1 ?c2 ?_;rotate_right;intro v1 w1 E V _;have H:Kp w w1:=Kp.grown ((Kp.refl w).alloc _) V (by intro k e;cases e;exact IB _);clear V)
  | (go_at_call 223;refine(Ac _ _).mono ?_;rintro e w2 ⟨⟨vp,rfl,C⟩,t⟩;rw[an.out] at C)
  | (at_builtin;refine cj U rfl _ _ rfl w.heap.size _ _ rfl (E.kp t) _ (pad l.length) rfl C ?c3 ?c4 ?_;rotate_right;intro v2 w3 D T _;have S:Kp w w3:=Kp.grown (H.trans t) T E.own_ge;rw[Js,HP.out] at D;clear T))
 case c1=>simp;omega
 case c2=>simp
 case c3=>have:=kw l.length;have:=kx l.length;simp;omega
 case c4=>exact(H.trans t).size
 refine(AB _).mono ?_;rintro e w4 ⟨⟨gk,rfl,hA,_⟩,G⟩;go_wp2_with fail;refine(AA _).mono ?_;rintro e g ⟨rfl,r⟩;have aj:=hA.kp r;have M:=(D.rd.kp G).kp r;have y:Kp w g:=(S.trans G).trans r;clear hA G r D S E H t C;obtain⟨a2,c2,rfl,aw,ab⟩:=M.shape;unfold maxLen at ab;go_wp2_with(refine gV (by kernel_rfl) rfl rfl (.tmp 5) (.tmp 17) rfl g.heap.size (aZ 8) df.list rfl rfl (Arr.new _ _ _ _ rfl) rfl rfl ?_;intro w6 Y f)
 have R:Kp g w6:=f.below ((Kp.refl g).alloc _) (IB _);clear f;go_loopw[6] (λi wr=>∃ k:Nat,k<=N/\i=.int .i64 (64*(k:Int))/\Arr 252 wr g.heap.size (bE df P k).list/\Kp g wr) (λi _=>(64*N - (intOf i).toNat))
 case atStart=>exact⟨0,by omega,rfl,Y,R⟩
 case round=>
  clear Y R;obtain⟨k,az,rfl,z,J⟩:=hrel;by_cases ax:k<N
  ·have n:64*(k:Int)<(P.length:Int):=by rw[HL.out];omega
   have HS:=Lib.hid (AO (64*(k:Int)) (bE df P k) (.slice a2 P.length c2) P (64*k) gk 64 cG wr (M.kp J) (by rw[HL.out];omega) (aj.kp J) rfl (by simp));rw[<-ia] at HS;obtain⟨s',B⟩:∃ s',bE df P (k+1)=s':=⟨_,rfl⟩;rw[B] at HS;have am:=Lib.hid B;clear B;generalize bE df P k=s at *;go_wp2_with(refine iG underlying252 (by kernel_rfl) rfl (.tmp 5) rfl g.heap.size s.list rfl z rfl ?_)
   refine HS.out.mono ?_;rintro e w7 ⟨rfl,F⟩;have ai:=z.kp F;have ae:Kp g w7:=J.trans F;clear z J F;go_wp2_with(refine gV (by kernel_rfl) rfl rfl (.tmp 5) (.tmp 28) rfl g.heap.size s.list s'.list rfl rfl ai rfl rfl ?_;intro w8 ah f)
   go_roundw
   case rel=>exact⟨k+1,by omega,by congr 1,by rw[am.out];exact ah,f.below ae (IB _)⟩
   case measure=>simp[intOf];omega
  ·obtain rfl:k=N:=by omega
   have n:¬64*(k:Int)<(P.length:Int):=by rw[HL.out];omega
   obtain⟨s,A⟩:∃ s,bE df P k=s:=⟨_,rfl⟩;rw[A] at z;have al:=Lib.hid A;clear A;go_wp2_with fail;rename World=>wA
   go_loopw[7,8] (λv i wq=>∃ j:Nat,j<=8/\i=.int .i64 j/\Ow 5 wq wA.heap.size v (jh s j)/\Kp wA wq) (λ_ i _=>(8 - intOf i).toNat)
   case atStart=>exact⟨0,by omega,rfl,Ow.nil _ _ _,Kp.refl _⟩
   case round=>
    obtain⟨j,hj,rfl,b,m⟩:=hrel;by_cases d:j<8
    ·have K:=(z.kp m).cell j d
     have hs:=qy s j d;have u:=ot s j (by omega);generalize s.list.getD j 0=x at *;obtain⟨b0,b1,b2,b3,h4,v0,av,au,v3⟩:=AP x;rw[h4] at hs;generalize jh s j=L at *;have HS:=Lib.hid hs;have ao:=Lib.hid u;have q:(j:Int)<8:=by omega
     clear hs u h4 n;go_wp2_with fail;have u0:=te x;have u1:=tf x;have w0:IntKind.u32.wrap ((aa x).tdiv 16777216)=aa x / 16777216:=by rw[Jp u0];exact fw _ (by omega) (by omega)
     have ar:IntKind.u32.wrap ((aa x).tdiv 65536)=aa x / 65536:=by rw[Jp u0];exact fw _ (by omega) (by omega)
     have aq:IntKind.u32.wrap ((aa x).tdiv 256)=aa x / 256:=by rw[Jp u0];exact fw _ (by omega) (by omega)
     have m1:(aa x / 65536).tmod 256=aa x / 65536 % 256:=Ji (by omega);have m2:(aa x / 256).tmod 256=aa x / 256 % 256:=Ji (by omega);have m3:(aa x).tmod 256=aa x % 256:=Ji u0;clear u0 u1;have ap:g.heap.size<wr.heap.size:=Jb wr _ K;go_region_held3 (λW=>W.cell? ⟨g.heap.size,j,none⟩=some (.int .u32 (aa x)))
      (first
       | exact K
       | exact(((Kp.refl wr).alloc _).drew).cell K
       | exact(((Kp.refl wr).drew).alloc _).cell K
       | exact(Kp.grown (((Kp.refl wr).alloc _).drew) I (λk e=>absurd e (by simp))).cell K
       | (exact ak)
       | trace_state)
      (first
       | (refine AL U rfl (.tmp 33) (.tmp 56) rfl wA.heap.size _ _ rfl (b.kp ((Kp.refl _).alloc _).drew) _ 4 4 [b0,b1,b2,b3] rfl ((Ow.lit wr 5 0 4 _ _ (IO _) rfl (by decide) rfl).kp (Kp.refl _).drew).rd (by rw[ao.out];simp;omega) (by have:=m.size;simp;omega) ?_;intro v' w9 ad I;have ak:w9.cell? ⟨g.heap.size,j,none⟩=some (.int .u32 (aa x)):=(Below.cell (Kp.grown (m.alloc _).drew I b.own_ge) (p:=⟨g.heap.size,j,none⟩) (Arr.lt z)).trans ((z.cell j d).trans (by have:=(z.kp m).cell j d;rw[K] at this;exact this.symm))))
     all_goals
      go_wp2_with fail;go_roundw
      case rel=>exact⟨j+1,by omega,by go_num,by rw[HS.out];exact ad,Kp.grown (m.alloc _).drew I b.own_ge⟩
      case measure=>simp[intOf];omega
    ·obtain rfl:j=8:=by omega
     go_wp2_with fail;go_ret;exact⟨⟨_,rfl,by rw[al.out];exact b.mono (y.trans J).size⟩,(y.trans J).trans m⟩
theorem tL (s:S8)(l m:List UInt8):∀ k,64*k<=l.length->bE s (l++m) k=bE s l k
 | 0,_=>rfl
 | k+1,h=>by
  rw[ia,ia,tL s l m k (by omega),Kg (by omega),Kf (by simp;omega)]
theorem tM (s:S8)(P:List UInt8)(a:Nat):∀ k,bE (bE s P a) (P.drop (64*a)) k=bE s P (a+k)
 | 0=>rfl
 | k+1=>by
  rw[ia,tM s P a k,List.drop_drop,show a+(k+1)=(a+k)+1 by omega,ia,show 64*a+64*k=64*(a+k) by omega]
theorem AQ (l:List UInt8)(N M:Nat)(e:N=l.length / 64)(a:64*M=(l.drop (64*N)++pad l.length).length):
  bH l=(bE (bE df l N) (l.drop (64*N)++pad l.length) M).bytes:=by
 have f:(eQ l).length=64*(N+M):=by
  unfold eQ;rw[IE] at a ⊢;rw[JK] at a;omega
 have d:(eQ l).length / 64=N+M:=by omega
 have c:l.drop (64*N)++pad l.length=(eQ l).drop (64*N):=by
  unfold eQ;rw[Kg (by omega)]
 unfold bH;rw[d,c,<-tM];have b:bE df (eQ l) N=bE df l N:=tL _ _ _ _ (by omega);rw[b]
theorem AR (l:List UInt8)(N:Nat)(a:N=l.length / 64):64*((l.drop (64*N)++pad l.length).length / 64)=(l.drop (64*N)++pad l.length).length:=by
 have:=tj l.length;rw[IE,JK];omega
theorem AS {b:Array Oper}{rest:List Oper}{a:Act}(d:o.guard=none)(s x:Operand)(t f:TypeId)
  (j:o.op=.call { callee:=.builtin .append,args:=#[s,x],argTypes:=#[t,f] }) (vs e v:Value) (i:a.eval s=vs) (g:a.eval x=e)
  (c:(Builtin.append_ #[t,f] o.type #[vs,e]).run P w=.ok v w') (h:wpList P b Q rest (a.put o.dst v) w'):wpList P b Q (o :: rest) a w:=by
 refine wpList_plain d λK k=>?_
 unfold Oper.wp;simp[execOp,j,resolve,invoke,builtin,i,g,c,Result.andThen];exact k _ _ h
theorem tO (n:Nat)(w:World)(q:0<n)(t:n<=1000000):
  Calls prog 196 #[.slice none 0 0,.int .i64 n] w λe w'=>(∃ v,e=.returned v/\Ow 5 w' w.heap.size v [])/\Kp w w':=by
 obtain⟨k,l,c,j,b⟩:=info_parts info5;have a:(Builtin.firstCells k.size 0 (.slice none 0 0)).run prog w.drew=.ok ([]:List Value).toArray w.drew:=rfl;have d:∀ i,(Builtin.append_ #[24,3] i #[.slice none 0 0,.int .i64 (n:Int)]).run prog w =
   .ok (.slice (some ⟨w.heap.size,0,none⟩) n (grownCap w n 0 5)) (w.drew.alloc (.cells (#[]++Builtin.zeroCells (Value.int .u8 0).cells n++Builtin.zeroCells (Value.int .u8 0).cells (grownCap w n 0 5 - n)) 5)):=λi=>by
  have h:=Lib.run_append_grow_zeros w 24 3 i 5 k (.int .u8 0) .i64 .i64 underlying24 underlying3 l c none 0 0 [] a n q (by omega) (by omega) (by omega) (by rw[b];omega)
   (by rw[b];have:=growslice_fits (need:=0+n) (old:=0) (bytes:=1) (by omega) (by omega);exact this)
  simpa using h
 have p:n<=grownCap w n 0 5:=grownCap_ge w _ _ _;have f:=grownCap_le_maxLen w n 0 5 (by unfold maxLen;omega);generalize grownCap w n 0 5=G at *;unfold maxLen at f;have o:¬(n:Int)<0:=by omega
 have m:0<(n:Int):=by omega
 clear a;go_enter func196,ntmps196;have g:(#[]++Builtin.zeroCells (Value.int .u8 0).cells n++Builtin.zeroCells (Value.int .u8 0).cells (G - n):Array Value).size=G:=by
  simp[size_zeroCells,Value.cells];omega
 generalize (#[]++Builtin.zeroCells (Value.int .u8 0).cells n++Builtin.zeroCells (Value.int .u8 0).cells (G - n):Array Value)=cs at *;have r:=Lib.hid d;have s:=Lib.hid g;clear d g c j b l;go_wp2_with(at_builtin;refine AS rfl (.tmp 20) (.tmp 21) _ _ rfl _ _ _ rfl rfl (r.out _) ?_)
 go_ret;refine⟨⟨_,rfl,?_⟩,(Kp.refl w).drew.alloc _⟩;refine⟨rfl,.inr ⟨w.heap.size,G,cs,rfl,IB _,?_,IO _,by unfold maxLen;exact f,by rw[s.out];simp,by simp[Lib.byteCells]⟩⟩;exact heap_alloc_new w.drew _
theorem tP (g c:Nat)(x u:Value)(a b:List UInt8)(w:World)(t:w.cell? ⟨g,0,none⟩=some x)(r:w.cell? ⟨g,1,none⟩=some u)(B:Rd w x a)(A:Rd w u b)(G:0<a.length+b.length)(H:a.length+b.length<=1000000):
  Calls prog 168 #[.slice (some ⟨g,0,none⟩) 2 c] w λe w'=>(∃ v,e=.returned v/\Ow 5 w' w.heap.size v (a++b))/\Kp w w':=by
 have U:=ag;obtain⟨M,K,rfl,p1,F⟩:=B.shape;obtain⟨L,J,rfl,p2,E⟩:=A.shape;unfold maxLen at F E;go_enter func168,ntmps168;go_wp2_with fail;go_loopw[3,11] (λs i wr=>((s=.int .i64 0/\i=.int .i64 0)\/(s=.int .i64 (a.length:Int)/\i=.int .i64 1)\/(s=.int .i64 ((a.length:Int)+(b.length:Int))/\i=.int .i64 2))/\wr=w) (λ_ i _=>2 - (intOf i).toNat)
 case atStart=>exact⟨.inl ⟨rfl,rfl⟩,rfl⟩
 case round=>
  obtain⟨k,rfl⟩:=hrel;rcases k with⟨rfl,rfl⟩|⟨rfl,rfl⟩|⟨rfl,rfl⟩
  ·go_wp2_with fail
   go_roundw
   case rel=>exact⟨.inr (.inl ⟨by simp,rfl⟩),trivial⟩
   case measure=>simp[intOf]
  ·go_wp2_with fail
   go_roundw
   case rel=>exact⟨.inr (.inr ⟨by simp,rfl⟩),trivial⟩
   case measure=>simp[intOf]
  ·rename World=>w0
   have h:((a.length+b.length:Nat):Int)=(a.length:Int)+(b.length:Int):=by simp
   have C:=Lib.hid (tO (a.length+b.length) w0 G H);rw[h] at C;clear h;go_wp2_with fail;refine C.out.mono ?_;rintro e I ⟨⟨v,rfl,d⟩,n⟩;go_wp2_with fail;go_loopw[6,27] (λaa i o=>((Ow 5 o w0.heap.size aa []/\i=.int .i64 0)\/(Ow 5 o w0.heap.size aa a/\i=.int .i64 1)\/(Ow 5 o w0.heap.size aa (a++b)/\i=.int .i64 2))/\Kp w0 o) (λ_ i _=>2 - (intOf i).toNat)
   case atStart=>exact⟨.inl ⟨d,rfl⟩,n⟩
   case round=>
    clear d n;obtain⟨k,j⟩:=hrel;have z:=j.cell t;have y:=j.cell r;have q:=B.kp j;have p:=A.kp j;have m:=j.size;rcases k with⟨d,rfl⟩|⟨d,rfl⟩|⟨d,rfl⟩
    ·go_wp2_with(at_builtin;refine cj U rfl _ _ rfl w0.heap.size _ _ rfl d _ a rfl q ?c1 m ?_;rotate_right;intro D w2 f l _)
     case c1=>simp;omega
     rw[Js] at f;go_roundw
     case rel=>exact⟨.inr (.inl ⟨f,rfl⟩),Kp.grown j l d.own_ge⟩
     case measure=>simp[intOf]
    ·go_wp2_with(at_builtin;refine cj U rfl _ _ rfl w0.heap.size _ _ rfl d _ b rfl p ?c1 m ?_;rotate_right;intro D w2 f l _)
     case c1=>omega
     go_roundw
     case rel=>exact⟨.inr (.inr ⟨f,rfl⟩),Kp.grown j l d.own_ge⟩
     case measure=>simp[intOf]
    ·go_wp2_with fail
     go_ret;exact⟨⟨_,rfl,d⟩,j⟩
def One (T:TypeId)(w:World)(p:Nat)(v:Value):Prop:=w.heap[p]?=some (.cells #[v] T (0,0))
theorem One.new (T:TypeId)(w:World)(v:Value):One T (w.alloc (.cells #[v] T)) w.heap.size v:=heap_alloc_new w _
theorem One.lt (h:One T w p v):p<w.heap.size:=(Iz.1 h).1
theorem One.cell (h:One T w p v):w.cell? ⟨p,0,none⟩=some v:=by
 rw[cell_of_row w p 0 _ T _ h];rfl
theorem One.frozen (h:One T w p v):w.frozen? ⟨p,0,none⟩=false:=by
 have a:=h;unfold One at a;simp[World.frozen?,a]
theorem One.kp (h:One T w p v)(k:Kp w w'):One T w' p v:=(k.block p h.lt).trans h
theorem One.set (h:One T w p v)(u:Value):One T (w.setCell ⟨p,0,none⟩ u) p u:=by
 have c:=h;unfold One at c ⊢;obtain⟨a,b⟩:=Iz.1 c;simp[World.setCell,a,La,b]
theorem Bj (ls:List (List UInt8))(k:Nat)(h:k<ls.length):(ls.take (k+1)).flatten=(ls.take k).flatten++ls.getD k []:=by
 rw[IP h,List.flatten_append,Iw,Iy h];simp
theorem Bk (ls:List (List UInt8))(k:Nat):(ls.take k).flatten.length<=ls.flatten.length:=by
 have e:ls.flatten=(ls.take k).flatten++(ls.drop k).flatten:=by rw[<-List.flatten_append,List.take_append_drop]
 rw[e,IE];omega
theorem kC (v:Value)(ls:List (List UInt8))(w:World)(h:RL w v ls)(O:0<ls.flatten.length)(P:ls.flatten.length<=1000000)(hn:ls.length<=1000000):
  Calls prog 168 #[v] w λe w'=>(∃ v,e=.returned v/\Ow 5 w' w.heap.size v ls.flatten)/\Kp w w':=by
 have U:=ag;obtain⟨a,c,rfl,h1,Z⟩:=h.shape;unfold maxLen at Z;have A:=Lib.hid (tO ls.flatten.length w O P);have K:=Lib.hid (Bj ls);have S:=Lib.hid (Bk ls);have q:(ls.take ls.length).flatten=ls.flatten:=by rw[Jz]
 have V:=Lib.hid q;clear q;go_enter func168,ntmps168;go_wp2_with fail;go_loopw[3,11] (λs i wr=>(∃ k:Nat,k<=ls.length/\i=.int .i64 k/\s=.int .i64 ((ls.take k).flatten.length:Int))/\wr=w) (λ_ i _=>ls.length - (intOf i).toNat)
 case atStart=>exact⟨⟨0,by omega,rfl,rfl⟩,rfl⟩
 case round=>
  obtain⟨⟨k,W,rfl,rfl⟩,rfl⟩:=hrel;rename World=>w
  by_cases f:k<ls.length
  ·obtain⟨b,B,rfl,_,d⟩:=h.at k f
   obtain⟨aa,m,g⟩:=d k f;obtain⟨au,cu,rfl,p1,p2⟩:=g.shape;have t:=congrArg List.length (K.out k f);rw[IE] at t;have l:=S.out (k+1);obtain⟨N,G⟩:∃ N,(ls.take k).flatten.length=N:=⟨_,rfl⟩;obtain⟨M,H⟩:∃ M,(ls.getD k []).length=M:=⟨_,rfl⟩;obtain⟨T,y⟩:∃ T,(ls.take (k+1)).flatten.length=T:=⟨_,rfl⟩;rw[G,H,y] at t;rw[y] at l;rw[H] at m p1;rw[G];have b1:(N:Int)+(M:Int)<=1000000:=by omega
   have HT:=Lib.hid (show(T:Int)=(N:Int)+(M:Int) by omega);have I:=Lib.hid y;unfold maxLen at p2;clear d g t G H y A;go_wp2_with fail;go_roundw
   case rel=>exact⟨⟨k+1,by omega,by go_num,by rw[I.out,HT.out]⟩,trivial⟩
   case measure=>simp[intOf];omega
  ·obtain rfl:k=ls.length:=by omega
   rw[V.out];obtain⟨F,z⟩:∃ F,ls.flatten.length=F:=⟨_,rfl⟩;rw[z] at A O P;rw[z];have J:=Lib.hid z;clear z;go_wp2_with fail;refine A.out.mono ?_;rintro e w1 ⟨⟨v,rfl,o⟩,u⟩;go_wp2_with fail;go_loopw[6,27] (λaa i L=>(∃ k:Nat,k<=ls.length/\i=.int .i64 k/\Ow 5 L w.heap.size aa (ls.take k).flatten)/\Kp w L) (λ_ i _=>ls.length - (intOf i).toNat)
   case atStart=>exact⟨⟨0,by omega,rfl,o⟩,u⟩
   case round=>
    clear o u;obtain⟨⟨k,W,rfl,o⟩,j⟩:=hrel;by_cases f:k<ls.length
    ·obtain⟨b,B,rfl,_,d⟩:=h.at k f
     obtain⟨aa,m,g⟩:=d k f;have x:=j.cell m;have n:=g.kp j;obtain⟨au,cu,rfl,p1,p2⟩:=g.shape;have t:=congrArg List.length (K.out k f);rw[IE] at t;have l:=S.out (k+1);rw[J.out] at l;have p:(List.take k ls).flatten.length+(ls.getD k []).length<=1000000:=by omega
     have C:=j.size;have r:=Lib.hid (K.out k f);obtain⟨X,R⟩:∃ X,ls.getD k []=X:=⟨_,rfl⟩;obtain⟨Y,Q⟩:∃ Y,(ls.take k).flatten=Y:=⟨_,rfl⟩;rw[R] at x n p1 p r;rw[Q] at o p r;unfold maxLen at p2;clear d g t m l A R Q;go_wp2_with(at_builtin;refine cj U rfl _ _ rfl w.heap.size _ _ rfl o _ X rfl n ?c1 C ?_;rotate_right;intro v' w2 D E _)
     case c1=>omega
     go_roundw
     case rel=>exact⟨⟨k+1,by omega,by go_num,by rw[r.out];exact D⟩,Kp.grown j E o.own_ge⟩
     case measure=>simp[intOf];omega
    ·obtain rfl:k=ls.length:=by omega
     rw[V.out] at o;go_wp2_with fail;go_ret;exact⟨⟨_,rfl,o⟩,j⟩
theorem az.tidy (h:az t K)(m:gn t 40):bq t K:=by
 have s:∀ x,(ats t x).kind=2->x % 2=1:=λx a=>by
  rcases h.okA x with c|⟨c,_⟩
  ·rw[c] at a;cases a
  ·omega
 refine⟨h.le,h.len,λx=>?_,s⟩;by_cases a:x<t.length
 ·rcases h.okA x with c|⟨c,⟨y,w,F⟩,E,D,C⟩
  ·rw[c];exact dM.blank
  ·have o:ats t x∈t:=by rw[jA a];exact Jg a
   obtain⟨l,g,z⟩:=m.2 _ o;refine⟨by omega,⟨y,w⟩,l,g,by omega,λi v=>?_⟩;obtain⟨j,q,rfl,u,n⟩:=gL K x (by rw[<-h.len];exact a);obtain⟨_,f,e⟩:=dX h.le u n;obtain⟨k,rfl,p,b⟩:=h.unAt f e i v;have r:2*k<t.length:=by
    refine Nat.lt_of_not_le λd=>?_
    rw[iW d] at b;cases b
   have B:=h.len2;have A:=bY h.le;omega
 ·rw[iW (by omega)];exact dM.blank
theorem dM.hashed {n:Nod}(h:dM n)(a:b.length<=40):dM (dA n b):=⟨h.kind,h.name,h.pub,a,h.unl,h.un⟩
theorem bq.hashed (h:bq t K)(x:Nat)(d:b.length<=40)(c:x<t.length):bq (t.set x (dA (ats t x) b)) K:=by
 refine⟨h.le,by rw[IW];exact h.len,λy=>?_,λy a=>?_⟩
 ·rw[dZ _ _ _ _ c]
  split
  ·exact(h.node x).hashed d
  ·exact h.node y
 ·rw[dZ _ _ _ _ c] at a
  split at a
  ·next e=>subst e;exact h.par _ a
  ·exact h.par y a
theorem uS {aa:List Nod}(c:∀ i,(ats aa i).kind=(ats t i).kind){a b:Int}{l:List Int}(h:unP t a b l):unP aa a b l:=
 ⟨h.1,λi d=>by rw[c];exact h.2 i d⟩
theorem az.hashed (h:az t K)(x:Nat)(s:b.length=0\/b.length=32)(i:x<t.length)(d:(ats t x).kind≠0):az (t.set x (dA (ats t x) b)) K:=by
 have k:=dZ t x (dA (ats t x) b);have j:∀ y,(ats (t.set x (dA (ats t x) b)) y).kind=(ats t y).kind:=λy=>by
  rw[k y i];split
  ·next e=>subst e;rfl
  ·rfl
 have p:∀ y,(ats (t.set x (dA (ats t x) b)) y).name=(ats t y).name:=λy=>by
  rw[k y i];split
  ·next e=>subst e;rfl
  ·rfl
 refine⟨h.le,by rw[IW];exact h.len,λy m=>?_,λy z l o a c=>?_,?_⟩
 ·rw[IW] at m
  by_cases e:y=x
  ·subst e
   rcases h.okA y with a|⟨a,c,q,n,f⟩
   ·rw[a] at d;exact absurd rfl d
   ·refine .inr ?_
    rw[k y i,if_pos rfl];exact⟨a,c,s,n,λg=>⟨(f g).1,uS j (f g).2⟩⟩
  ·have g:ats (t.set x (dA (ats t x) b)) y=ats t y:=by rw[k y i,if_neg e]
   rcases h.okA y with a|⟨a,c,q,n,f⟩
   ·exact .inl (g.trans a)
   ·refine .inr ?_
    rw[g];exact⟨a,c,q,n,λr=>⟨(f r).1,uS j (f r).2⟩⟩
 ·rw[j] at a c
  rw[p,p];rw[IW] at o;exact h.one y z l o a c
 ·obtain⟨y,m,a⟩:=h.used
  exact⟨y,by rw[IW];exact m,by rw[j];exact a⟩
theorem Cm (t:List Nod)(x a:Int):(gY t x a).length=0\/(gY t x a).length=32:=by
 unfold gY;split
 ·exact .inr (tG _)
 ·exact .inl rfl
theorem Cn {i:Nat}{s:List Nod × List UInt8}{x:Nat}(e:x<t.length)(c:bq s.1 K)(b:s.1.length=t.length)(a:s.2.length=0\/s.2.length=32):
  bq (bP i s x).1 K/\(bP i s x).1.length=t.length/\((bP i s x).2.length=0\/(bP i s x).2.length=32)/\(az s.1 K->az (bP i s x).1 K):=by
 unfold bP;split
 ·next hk=>
  refine⟨c.hashed x (by omega) (by omega),by rw[IW];exact b,Cm _ _ _,λd=>d.hashed x a (by omega) (by rw[hk];decide)⟩
 ·exact⟨c,b,a,λh=>h⟩
theorem qZ {t:List Nod}{K i:Nat}:∀ (l:List Nat) (s:List Nod × List UInt8),(∀ x∈l,x<t.length)->bq s.1 K->s.1.length=t.length->(s.2.length=0\/s.2.length=32) ->
  bq (l.foldl (bP i) s).1 K/\(l.foldl (bP i) s).1.length=t.length/\((l.foldl (bP i) s).2.length=0\/(l.foldl (bP i) s).2.length=32)/\(az s.1 K->az (l.foldl (bP i) s).1 K)
 | [],s,_,h1,h2,h3=>⟨h1,h2,h3,λh=>h⟩
 | x :: l,s,hl,h1,h2,h3=>by
  obtain⟨g1,g2,g3,g4⟩:=Cn (i:=i) (hl x (by simp)) h1 h2 h3
  obtain⟨f1,f2,f3,f4⟩:=qZ (i:=i) l (bP i s x) (λy hy=>hl y (by simp[hy])) g1 g2 g3
  exact⟨f1,f2,f3,λh=>f4 (g4 h)⟩
def bg (B:Nat)(v:Value):Prop:=∀ g,v.ownBlock=some g->B<=g
theorem bg.nil (B n c:Nat):bg B (.slice none n c):=λg h=>by cases h
theorem bg.mono {C:Nat}(h:bg B v)(b:C<=B):bg C v:=λg a=>IU b (h g a)
theorem bg.kp (h:bg w'.heap.size v)(k:Kp w w'):bg w.heap.size v:=h.mono k.size
