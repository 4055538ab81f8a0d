import Derived.Test.YthmhklmkgkfcpaaGreatDoorV5
import Derived.Lib.LaidTab
import Derived.Stop.LaidErr
import Derived.Deep.DeepHandedRow
import Derived.RangeFuncBox
import Derived.Maps.OwnIn
import Derived.WalkMore
import Derived.SizedLaws
set_option linter.all false
set_option maxHeartbeats 8000000
set_option maxRecDepth 100000
namespace Go.Proofs.YthmhklmkgkfcpaaGreatDoor
open Go.Proofs.Tryz Go.RowKit
variable {A w w' w0:World}{B C N c d i j n:Nat}{F:Fence}{K:Act->World->Prop}{L l:List Nat}{P:Program}{Q:Exit->Act->World->Prop}{R Y:Nat->Prop}{a:Act}{b:Array Bool}{e t:TypeId}{o oj:Oper}{p:List MemPlace}{r:Reach}{v:Value}
def Tab (w:World):Prop:=∀ i,i<64->w.cell? ⟨1,i,none⟩=some (.int .u8 ((Lib.deBruijn64tab.getD i 0:Nat):Int))
theorem Tab.kp (h:Tab w)(k:Kp w w'):Tab w':=λi a=>k.cell (h i a)
theorem Tab.lt (h:Tab w):1<w.heap.size:=Jb w _ (h 0 (by omega))
theorem Tab.held {B:World}(h:Tab A)(k:aN R A B)(a:R 1):Tab B:=λi b=>k.cell (h i b) a
theorem zi (x a:Nat)(d:x<18446744073709551616)(c:x≠0)(b:x &&& (18446744073709551616 - x)=a):
  IntKind.u64.wrap (bits BinOp.and IntKind.u64 (x:Int) (IntKind.u64.wrap (-(x:Int)))*285870213051353865) / 288230376151711744=((a*285870213051353865 % 18446744073709551616 / 288230376151711744:Nat):Int):=by
 have e:IntKind.u64.wrap (-(x:Int))=((18446744073709551616 - x:Nat):Int):=by rw[Mh];omega
 rw[e,bits_and_u64_nat x _ d (by omega),b,Mh];omega
theorem zj (x k a:Nat)(w:World)(c:((x:Int)==0)=false)
  (key:IntKind.u64.wrap (bits BinOp.and IntKind.u64 (x:Int) (IntKind.u64.wrap (-(x:Int)))*285870213051353865) / 288230376151711744=(a:Int))
  (f:a<64) (d:k<64) (b:w.cell? ⟨1,a,none⟩=some (.int .u8 k)):
  Calls prog 232 #[.int .u64 x] w λe w'=>e=.returned (.int .i64 k)/\w=w':=by
 go_enter func232,ntmps232;go_wp2_with(simp only[key])
 go_ret;exact⟨rfl,rfl⟩
theorem zk (x:Nat)(w:World)(f:x<18446744073709551616)(b:x≠0)(i:Tab w):
  Calls prog 232 #[.int .u64 x] w λe w'=>e=.returned (.int .i64 (Lib.ctz 64 x))/\w=w':=by
 obtain⟨d,g⟩:=Lib.lowest_bit 64 x b f;obtain⟨h,c⟩:=Lib.deBruijn64_at _ g;have a:=i _ h;rw[c] at a;exact zj x _ _ w (by simp;omega) (zi x _ f b d) h g a
theorem zl (x:Nat)(w:World)(b:x<18446744073709551616)(a:x≠0)(c:Tab w):
  Calls prog 193 #[.int .u64 x] w λe w'=>e=.returned (.int .i64 (Lib.ctz 64 x))/\w=w':=by
 have H:=Lib.hid (zk x w b a c);clear b a c;go_enter func193,ntmps193;go_wp2_with fail;refine H.out.mono ?_;rintro _ _ ⟨rfl,rfl⟩;go_wp2_with fail;go_ret;exact⟨rfl,rfl⟩
theorem sS (n:Int)(w:World):Calls prog 161 #[.int .i64 n] w λe w'=>e=.returned (.bool (bU n))/\w=w':=by
 by_cases h:1<=n/\n<=1024
 ·obtain⟨N,rfl⟩:=IR (by omega:0<=n)
  rw[yY N (by omega) (by omega)];have a:(1:Int)<=(N:Int):=h.1;have d:(N:Int)<=1024:=h.2;have i:IntKind.i64.wrap ((N:Int) - 1)=((N - 1:Nat):Int):=by rw[IA _ (by omega)];omega
  have g:bits .and .i64 (N:Int) ((N - 1:Nat):Int)=((N &&& (N - 1):Nat):Int):=sM N (N - 1) (by omega) (by omega);have f:(((N &&& (N - 1):Nat):Int)==0)=decide (N &&& (N - 1)=0):=by
   by_cases c:N &&& (N - 1)=0
   ·rw[c];rfl
   ·rw[IS c,ID];omega
  generalize decide (N &&& (N - 1)=0)=b at *;generalize N &&& (N - 1)=M at *;generalize ((N - 1:Nat):Int)=j at *;clear h;go_enter func161,ntmps161;go_wp2_with fail;go_ret;exact⟨rfl,rfl⟩
 ·rw[yZ n h]
  by_cases a:1<=n
  ·have d:¬n<=1024:=λe=>h ⟨a,e⟩
   clear h;go_enter func161,ntmps161;go_wp2_with fail;go_ret;exact⟨rfl,rfl⟩
  ·clear h
   go_enter func161,ntmps161;go_wp2_with fail;go_ret;exact⟨rfl,rfl⟩
theorem nQ (x n:Int)(w:World):Calls prog 124 #[.int .i64 x,.int .i64 n] w λe w'=>e=.returned (.bool (inB x n))/\w=w':=by
 have d:=Lib.hid (sS n w);by_cases b:bU n=true
 ·have j:=lC b
  have l:IntKind.i64.wrap (2*n)=2*n:=IA _ (by omega);have k:IntKind.i64.wrap (2*n - 2)=2*n - 2:=IA _ (by omega);have f:inB x n=(decide (0<=x) && decide (x<2*n - 1)):=by unfold inB;rw[b];rfl
  have g:decide (x<2*n - 1)=decide (x<=2*n - 2):=by congr 1;exact propext ⟨λh=>by omega,λh=>by omega⟩
  rw[b] at d;rw[f,g];clear b j f g;by_cases i:0<=x
  ·have c:(decide (0<=x) && decide (x<=2*n - 2))=decide (x<=2*n - 2):=by simp[i]
   rw[c];clear c;go_enter func124,ntmps124;go_wp2_with fail;refine d.out.mono ?_;rintro _ _ ⟨rfl,rfl⟩;go_wp2_with fail;go_ret;exact⟨rfl,rfl⟩
  ·have c:(decide (0<=x) && decide (x<=2*n - 2))=false:=by simp;intro h;omega
   rw[c];clear c;go_enter func124,ntmps124;go_wp2_with fail;refine d.out.mono ?_;rintro _ _ ⟨rfl,rfl⟩;go_wp2_with fail;go_ret;exact⟨rfl,rfl⟩
 ·have a:bU n=false:=by rw[Ka];exact b
  have f:inB x n=false:=by unfold inB;rw[a];rfl
  rw[a] at d;rw[f];clear b a f;go_enter func124,ntmps124;go_wp2_with fail;refine d.out.mono ?_;rintro _ _ ⟨rfl,rfl⟩;go_wp2_with fail;go_ret;exact⟨rfl,rfl⟩
theorem sT (x:Int):inB x 1024=decide (okN x):=by
 have h:bU 1024=true:=jZ 10 (by omega);unfold inB okN;rw[h,Bool.true_and];by_cases a:0<=x
 ·by_cases b:x<=2046
  ·rw[IY a,IY (show x<2*1024 - 1 by omega),IY (show 0<=x/\x<=2046 from⟨a,b⟩)];rfl
  ·rw[IY a,IS (show ¬x<2*1024 - 1 by omega),IS (show ¬(0<=x/\x<=2046) from λh=>b h.2)];rfl
 ·rw[IS a,IS (show ¬(0<=x/\x<=2046) from λh=>a h.1)];rfl
theorem ki (x:Int)(w:World)(b:Tab w):Calls prog 158 #[.int .i64 x] w λe w'=>e=.returned (.int .i64 (dY x))/\w=w':=by
 have a:=Lib.hid (nQ x 1024 w);rw[sT] at a;by_cases h:okN x
 ·obtain⟨j,q,rfl,d,c⟩:=(dW x).1 h
  have g:0<=((nd j q:Nat):Int)/\((nd j q:Nat):Int)<=2046:=h;rw[IY h] at a;have f:=Lib.hid (zl (nd j q+1) w (by omega) (by omega) b);rw[yS j q d] at f;rw[eL d c];have k:IntKind.u64.wrap ((nd j q:Nat):Int)=((nd j q:Nat):Int):=by rw[Mh];omega
  have i:IntKind.u64.wrap (((nd j q:Nat):Int)+1)=((nd j q+1:Nat):Int):=by rw[Mh];omega
  generalize ((nd j q+1:Nat):Int)=Y at *;generalize ((nd j q:Nat):Int)=X at *;clear h g c b;go_enter func158,ntmps158;go_wp2_with fail;refine a.out.mono ?_;rintro _ _ ⟨rfl,rfl⟩;go_wp2_with fail;refine f.out.mono ?_;rintro _ _ ⟨rfl,rfl⟩;go_wp2_with fail;go_ret;exact⟨rfl,rfl⟩
 ·rw[IS h] at a
  rw[lD h];clear h b;go_enter func158,ntmps158;go_wp2_with fail;refine a.out.mono ?_;rintro _ _ ⟨rfl,rfl⟩;go_wp2_with fail;go_ret;exact⟨rfl,rfl⟩
theorem sU : prog.globalNamed "math/bits.deBruijn64tab" = some 1 := by kernel_rfl
theorem zm:(prog.globals[1]?).map (·.type)=some 279:=by kernel_rfl
theorem zn:prog.cellsOf 279=64:=by kernel_rfl
theorem zo:prog.cellsOf 5=1:=by kernel_rfl
theorem zq {W : World}(h : laidMetH prog [("math/bits.deBruijn32tab", Rows.laid_math_bits_deBruijn32tab), ("math/bits.deBruijn64tab", Rows.laid_math_bits_deBruijn64tab)] W) : Tab W := by
 have e : laidMet prog [("math/bits.deBruijn32tab", Rows.laid_math_bits_deBruijn32tab), ("math/bits.deBruijn64tab", Rows.laid_math_bits_deBruijn64tab)] W := h;have d := laidMet.tail e;have t : Lib.TabIs prog W "math/bits.deBruijn64tab" .u8 (Lib.deBruijn64tab.map λ(n : Nat) => (n : Int)) :=
  Lib.tabIs_of_head (rest:=[]) sU zm underlying279 underlying5 zo zn d
 intro i b;have c:=t.cell sU i (by simpa using (show i<Lib.deBruijn64tab.length from b));rw[c];have a:i<Lib.deBruijn64tab.length:=b;simp[Iw,a]
def sV (l:List Nat):Obj->Obj
 | .cells _ t frozen=>.cells (l.map fun(n:Nat)=>(.int .u8 (n:Int):Value)).toArray t frozen
 | o=>o
noncomputable def pT (os:Os):World:=
 { World.holding prog os ⟨#[],#[],[]⟩ with heap:=((World.holding prog os ⟨#[],#[],[]⟩).heap.modify 0 (sV Lib.deBruijn32tab)).modify 1 (sV Lib.deBruijn64tab) }
structure bz (P:Program)(t e:TypeId):Prop where
 ht:P.underlying t=some (.slice e)
 hi:∃ i z,P.info? e=some i/\i.zero=some z/\i.size=1/\i.bytes<=64/\z.cells.size=1
theorem bz.mk' {z:Value}{b:Nat}(g:P.underlying t=some (.slice e))(h:(P.info? e).map (λi=>(i.zero,i.size,i.bytes))=some (some z,1,b))(k:b<=64)(f:z.cells.size=1):bz P t e:=by
 obtain⟨i,j,c,a,d⟩:=info_parts h;exact⟨g,i,z,j,c,a,by omega,f⟩
theorem pU (S:bz P t e){l:Array Oper}{rest:List Oper}(q:o.guard=none)(s x:Operand)
  (K:o.op=.call { callee:=.builtin .append,args:=#[s,x],argTypes:=#[t,t] })
  (B:Nat) (v:Value) (us:List Value) (J:a.eval s=v) (b:w.ownsRow B e 1 v us.length us) (u:Value) (d:List Value) (I:a.eval x=u) (N:cJ w u d) (H:∀ z∈d,z.oneCell'=true)
  (n:us.length+d.length<=1000000000000) (k:B<=w.heap.size)
  (h:∀ r w',w'.ownsRow B e 1 r (us++d).length (us++d)->w.grownBy w' v.ownBlock->wpList P l Q rest (a.put o.dst r) w'):wpList P l Q (o :: rest) a w:=by
 obtain⟨i,z,L,M,f,G,C⟩:=S.hi
 obtain⟨A,c,rfl,T,R,m,g⟩:=N
 cases A with
 | none=>
  have F:=m rfl
  have D:d=[]:=IX (by omega)
  subst D
  subst F
  refine wpList_append_own_none q s x t K B e i 1 S.ht L v us.length us J b I ?_
  exact h v w (by simpa using b) ⟨rfl,rfl,rfl,IB _,λ_ _ _=>rfl⟩
 | some A=>
  refine wpList_append_own w q s x t K B e i z 1 i.bytes S.ht L M f rfl C (by decide) v us.length us J b A d.length c d I (by omega) (λj y E=>?_) H (by unfold maxLen;omega) ?_ k
   (λr w' H O U=>h r w' (by rw[IE];exact H) O)
  ·have p:j<d.length:=(Jk.1 E).1
   rw[Iy p] at E
   cases E
   exact g A rfl j p
  ·have:=Kc n G
   omega
theorem Rd.one {l:List UInt8}(h:Rd w v l):v.oneCell'=true:=by
 obtain⟨a,c,rfl,_⟩:=h.shape;rfl
theorem nR (w:World)(e:TypeId)(u:Value):(w.alloc (.cells #[u] e)).ownsRow w.heap.size e 1 (.slice (some ⟨w.heap.size,0,none⟩) 1 1) [u].length [u]:=
 JW w #[u] 1 (IB _) (by unfold maxLen;omega) rfl
def iv (n:Nat):Value:=.int .i64 (n:Int)
def RN (w:World)(v:Value)(l:List Nat):Prop:=cJ w v (l.map iv)
def ON (e:TypeId)(w:World)(B:Nat)(v:Value)(l:List Nat):Prop:=w.ownsRow B e 1 v (l.map iv).length (l.map iv)
theorem RN.kp (h:RN w v l)(k:Kp w w'):RN w' v l:=cJ.kp h k
theorem RN.nil (w:World):RN w (.slice none 0 0) []:=cJ.nil w
theorem RN.shape (h:RN w v l):∃ a c,v=.slice a l.length c/\l.length<=c/\c<=maxLen:=by
 have:=cJ.shape h;rwa [Jl] at this
theorem RN.at {a:Option Addr}(h:RN w (.slice a n c) l)(k:Nat)(f:k<n):
  ∃ b d,a=some ⟨b,d,none⟩/\b<w.heap.size/\∀ i,i<n->w.cell? ⟨b,d+i,none⟩=some (.int .i64 ((l.getD i 0:Nat):Int)):=by
 obtain⟨b,d,o,m,j⟩:=cJ.at h k f;have p:n=l.length:=by
  obtain⟨r,q,e,_⟩:=h.shape;simp only[IG] at e;exact e.2.1
 refine⟨b,d,o,m,λi g=>?_⟩;rw[j i g,Iw,Jt,Iy (by omega),Iw,Iy (by omega)];rfl
theorem ON.rn (h:ON e w B v l):RN w v l:=cJ.own h
theorem ON.nil (e:TypeId)(w:World)(B:Nat):ON e w B (.slice none 0 0) []:=LZ _ _ _ _
theorem ON.kp (h:ON e w B v l)(k:Kp w w'):ON e w' B v l:=by
 refine⟨h.1,?_⟩;rcases h.2 with d|⟨g,b,a,rfl,f,c,rest⟩
 ·exact .inl d
 ·exact .inr ⟨g,b,a,rfl,f,(Below.block k g (Iz.1 c).1).trans c,rest⟩
theorem ON.own_ge (h:ON e w B v l):∀ k,v.ownBlock=some k->B<=k:=λk a=>(Jw h k a).1
theorem RN.sl (h:RN w v l):∃ a n c,v=.slice a n c:=by
 obtain⟨a,c,e,_⟩:=h.shape;exact⟨_,_,_,e⟩
theorem ON.lit1 (w:World)(e:TypeId)(n:Nat):RN (w.alloc (.cells #[.int .i64 (n:Int)] e)) (.slice (some ⟨w.heap.size,0,none⟩) 1 1) [n]:=
 cJ.own (nR w e (iv n))
theorem pV (S:bz P t e){c:Array Oper}{rest:List Oper}(g:o.guard=none)(s x:Operand)
  (q:o.op=.call { callee:=.builtin .append,args:=#[s,x],argTypes:=#[t,t] })
  (B:Nat) (v:Value) (l:List Nat) (p:a.eval s=v) (d:ON e w B v l) (u:Value) (n:Nat) (k:a.eval x=u) (m:RN w u [n]) (j:l.length<=1000000) (b:B<=w.heap.size)
  (h:∀ f w',ON e w' B f (l++[n])->w.grownBy w' v.ownBlock->wpList P c Q rest (a.put o.dst f) w'):wpList P c Q (o :: rest) a w:=by
 refine pU S g s x q B v (l.map iv) p d u [iv n] k m (λz i=>by simp at i;subst i;rfl) (by rw[Jl];simp;omega) b (λf w' y r=>h f w' ?_ r);unfold ON;rw[JZ];exact y
def nI (n:Int):Value:=.int .i64 n
def RI (w:World)(v:Value)(l:List Int):Prop:=cJ w v (l.map nI)
def OI (e:TypeId)(w:World)(B:Nat)(v:Value)(l:List Int):Prop:=w.ownsRow B e 1 v (l.map nI).length (l.map nI)
theorem RI.kp {l:List Int}(h:RI w v l)(k:Kp w w'):RI w' v l:=cJ.kp h k
theorem RI.nil (w:World):RI w (.slice none 0 0) []:=cJ.nil w
theorem RI.shape {l:List Int}(h:RI w v l):∃ a c,v=.slice a l.length c/\l.length<=c/\c<=maxLen:=by
 have:=cJ.shape h;rwa [Jl] at this
theorem RI.sl {l:List Int}(h:RI w v l):∃ a n c,v=.slice a n c:=by
 obtain⟨a,c,e,_⟩:=h.shape;exact⟨_,_,_,e⟩
theorem RI.at {a:Option Addr}{l:List Int}(h:RI w (.slice a n c) l)(k:Nat)(f:k<n):
  ∃ b d,a=some ⟨b,d,none⟩/\b<w.heap.size/\∀ i,i<n->w.cell? ⟨b,d+i,none⟩=some (.int .i64 (l.getD i 0)):=by
 obtain⟨b,d,o,m,j⟩:=cJ.at h k f;have p:n=l.length:=by
  obtain⟨r,q,e,_⟩:=h.shape;simp only[IG] at e;exact e.2.1
 refine⟨b,d,o,m,λi g=>?_⟩;rw[j i g,Iw,Jt,Iy (by omega),Iw,Iy (by omega)];rfl
theorem RN.ri (h:RN w v l):RI w v (l.map fun(n:Nat)=>(n:Int)):=by
 unfold RI;rw[List.map_map];exact h
theorem ON.oi (h:ON e w B v l):OI e w B v (l.map fun(n:Nat)=>(n:Int)):=by
 unfold OI;rw[List.map_map];exact h
theorem OI.ri {l:List Int}(h:OI e w B v l):RI w v l:=cJ.own h
theorem OI.nil (e:TypeId)(w:World)(B:Nat):OI e w B (.slice none 0 0) []:=LZ _ _ _ _
theorem nT {us:List Value}(h:w.ownsRow B e C v n us)(k:Kp w w'):w'.ownsRow B e C v n us:=by
 refine⟨h.1,?_⟩;rcases h.2 with d|⟨g,b,a,rfl,f,c,rest⟩
 ·exact .inl d
 ·exact .inr ⟨g,b,a,rfl,f,(Below.block k g (Iz.1 c).1).trans c,rest⟩
theorem OI.kp {l:List Int}(h:OI e w B v l)(k:Kp w w'):OI e w' B v l:=nT h k
theorem OI.mono {l:List Int}(h:OI e w B v l)(f:C<=B):OI e w C v l:=by
 refine⟨h.1,?_⟩;rcases h.2 with c|⟨g,b,a,d,i,rest⟩
 ·exact .inl c
 ·exact .inr ⟨g,b,a,d,by omega,rest⟩
theorem OI.lt {l:List Int}(h:OI e w B v l):∀ k,v.ownBlock=some k->B<=k/\k<w.heap.size:=λk a=>Jw h k a
theorem RI.lit (w:World)(e:TypeId)(cs:Array Value)(l:List Int)(n:Nat)(d:l.length=n)(f:n<=1000000)(b:cs.toList=l.map nI):
  OI e (w.alloc (.cells cs e)) w.heap.size (.slice (some ⟨w.heap.size,0,none⟩) n n) l:=by
 subst d;have a:(l.map nI).length=l.length:=Jl ..;unfold OI;rw[a];have c:(w.alloc (.cells cs e)).ownsRow w.heap.size e 1 (.slice (some ⟨w.heap.size,0,none⟩) l.length l.length) l.length cs.toList:=
  JW w cs l.length (IB _) (by unfold maxLen;omega) (by rw[<-LK,b,a];omega)
 rw[b] at c;exact c
theorem ga (S:bz P t e){c:Array Oper}{rest:List Oper}(g:o.guard=none)(s x:Operand)
  (r:o.op=.call { callee:=.builtin .append,args:=#[s,x],argTypes:=#[t,t] })
  (B:Nat) (v:Value) (l:List Int) (q:a.eval s=v) (d:OI e w B v l) (u:Value) (m:List Int) (k:a.eval x=u) (p:RI w u m) (i:l.length+m.length<=1000000) (b:B<=w.heap.size)
  (h:∀ f w',OI e w' B f (l++m)->w.grownBy w' v.ownBlock->wpList P c Q rest (a.put o.dst f) w'):wpList P c Q (o :: rest) a w:=by
 refine pU S g s x r B v (l.map nI) q d u (m.map nI) k p (λz j=>?_) (by rw[Jl,Jl];omega) b (λf w' A y=>h f w' ?_ y)
 ·obtain⟨n,_,rfl⟩:=Ju.1 j
  rfl
 ·unfold OI
  rw[JZ];exact A
section
variable {F : Fence} {n : Nat} {P : Program} {ops : Array Oper} {Q : Exit -> Act -> World -> Prop} {md : Region.Mode} {S : World -> Prop}
structure fS (P:Program)(ops:Array Oper)(S:World->Prop)(o:Oper)(v:Value)(a:Act):Prop where
 nodefer:∀ c,o.op≠.defer c
 about:∀ w,o.about P w a.eval=none
 yields:(Region.wanted o (yielded ops a.tmps)=true/\∀ w,S w->(execOp a.eval o).run P w=.ok (.value v) w)\/(Region.wanted o (yielded ops a.tmps)=false/\v=undef)
def oM (ops:Array Oper):Bool:=ops.all λo=>match o.op with|.defer _=>false|_=>true
theorem Bu (h:oM ops=true)(a:ops[j]?=some o):∀ c,o.op≠.defer c:=λc e=>by
 have:=Kv.1 h o (Array.mem_of_getElem? a);rw[e] at this;cases this
theorem fS.put (h:fS P ops S o v a)(e:∀ cs b,o.op≠.select cs b)(u:Value)(c:∀ d,oj.dst=some d->d∉o.looksAt ops):fS P ops S o v (a.put oj.dst u):=by
 obtain⟨i,g,f⟩:=h;refine⟨i,λw=>(about_put o w a oj.dst u c).trans (g w),?_⟩;rw[wanted_put o a oj.dst u c,execOp_put o e a oj.dst u c];exact f
theorem fS.run (h:fS P ops S o v a)(e:ops[i]?=some o)(g:S w)(d:K (a.put o.dst v) w):wpOpIn F n P ops Q i K a w:=by
 have b:∀ f,o.about P w a.eval=some f->F.fn f:=λf c=>by rw[h.about w] at c;cases c
 unfold wpOpIn;simp only[e];rcases h.yields with⟨hw,hv⟩|⟨hw,rfl⟩
 ·rw[if_pos hw]
  exact⟨b,by rw[Oper.semAt_plain F _ _ h.nodefer,hv w g];exact d⟩
 ·rw[if_neg (by rw[hw];decide)]
  exact⟨b,d⟩
theorem fS.later (h:fS P ops S o v a)(y:oM ops=true)(t:Region.noSelect ops=true)(J:ops[i]?=some o)(z:ops[j]?=some oj)
  (A:o.apart ops oj=true) (B:∀ c a w,Q (.panic c) (a.put o.dst v) w->Q (.panic c) a w) (q:wpOpIn F n P ops Q j K (a.put o.dst v) w):
  wpOpIn F n P ops Q j (λG w'=>fS P ops S o v G/\K (G.put o.dst v) w') a w:=by
 obtain⟨p1,p2,C⟩:=Oper.apart_spec A;have x:=λcs b=>Region.noSelect_spec t j oj cs b z
 have s:=λcs b=>Region.noSelect_spec t i o cs b J
 have E:=Bu y z;have g:∀ u w',K ((a.put o.dst v).put oj.dst u) w'->fS P ops S o v (a.put oj.dst u)/\K ((a.put oj.dst u).put o.dst v) w':=λu w' I=>⟨h.put s u C,by rw[<-Act.put_comm a v u p2];exact I⟩
 unfold wpOpIn at *;simp only[z] at *;rw[wanted_put oj a o.dst v p1,about_put oj w a o.dst v p1] at q;by_cases D:Region.wanted oj (yielded ops a.tmps)=true
 ·rw[if_pos D] at q ⊢
  unfold Oper.wpIn at *;rw[Oper.semAt_plain F _ _ E,about_put oj w a o.dst v p1,execOp_put oj x a o.dst v p1] at q;refine⟨q.1,?_⟩;rw[Oper.semAt_plain F _ _ E];have k:=q.2;obtain⟨r,H⟩:∃ r,(execOp a.eval oj).run P w=r:=⟨_,rfl⟩;rw[H] at k ⊢;match r,k with
  | .ok (.value u) w',k=>exact g u w' k
  | .ok .skip w',k=>exact g undef w' k
  | .ok (.defer d) w',k=>
   refine⟨fS.put (a:={ a with defers:=d :: a.defers }) (oj:=oj) ⟨h.nodefer,h.about,h.yields⟩ s undef C,?_⟩;rw[<-Act.put_comm _ v undef p2,<-Act.put_defers];exact k
  | .ok (.enter f args) w',k=>
   refine⟨k.1,k.2.mono λe p m=>?_⟩;match e,m with
   | .returned u,m=>exact g u p m
   | .panicked c,m=>exact B _ _ _ m
   | .outgrown,m=>exact m
  | .ok (.row row args) w',k=>exact⟨k.1,k.2.mono λu p m=>g u p m⟩
  | .ok (.round l f tmps assign body) w',k=>
   refine⟨k.1,k.2.mono λe p m=>?_⟩;match e,m with
   | .returned u,m=>exact g u p m
   | .panicked c,m=>exact B _ _ _ m
   | .outgrown,m=>exact m
  | .halt (.panic u) w',k=>exact B _ _ _ k
 ·rw[if_neg D] at q ⊢
  exact⟨q.1,g undef w q.2⟩
def bi (F:Fence)(n:Nat)(P:Program)(md:Region.Mode)(ops:Array Oper)(Q:Exit->Act->World->Prop)(S:World->Prop):Nat->Array Bool->Act->World->Prop
 | 0,listed,a,w=>Region.ready md ops listed=[]/\Q .normal a w
 | fuel+1,listed,a,w=>
  (Region.ready md ops listed=[]->Q .normal a w) /\
  ∀ i∈Region.ready md ops listed,wpOpIn F n P ops Q i (λa' w'=>S w'/\bi F n P md ops Q S fuel (listed.setIfInBounds i true) a' w') a w
theorem bi.any:∀ (fuel:Nat) (listed:Array Bool) (a:Act) (w:World),bi F n P md ops Q S fuel listed a w->wpAnyIn F n P md ops Q fuel listed a w
 | 0,_,_,_,h=>h
 | fuel+1,_,_,_,h=>⟨h.1,λi hi=>wpOpIn_mono (λa' w' h'=>bi.any fuel _ a' w' h'.2) (h.2 i hi)⟩
theorem bi.first {i:Nat}{o:Oper}{v:Value}(hnd:oM ops=true)(hns:Region.noSelect ops=true)(hi:ops[i]?=some o)(hQ:∀ c a w,Q (.panic c) (a.put o.dst v) w->Q (.panic c) a w):
  ∀ (fuel:Nat) (listed:Array Bool) (a:Act) (w:World),
   (∀ j oj,ops[j]?=some oj->j≠i->listed.getD j true=false->(∀ e∈oj.after,Region.binds md e=true->e.on≠i)->o.apart ops oj=true) ->
   i∈Region.ready md ops listed->fS P ops S o v a->S w->bi F n P md ops Q S fuel (listed.setIfInBounds i true) (a.put o.dst v) w->bi F n P md ops Q S (fuel+1) listed a w
 | fuel,listed,a,w,hfree,hr,hy,hS,H=>by
  refine⟨λh=>(by rw[h] at hr;cases hr),λj hj=>?_⟩
  by_cases hji:j=i
  ·subst hji
   exact hy.run hi hS ⟨hS,H⟩
  ·have hj':=ready_mono (i:=i) hj hji
   match fuel,H with
   | 0,H=>rw[H.1] at hj';cases hj'
   | fuel+1,H=>
    obtain⟨hjun,oj,hoj,hall⟩:=mem_ready.1 hj
    have hnot:∀ e∈oj.after,Region.binds md e=true->e.on≠i:=λe he hb heq=>by
     have h1:=hall e he hb
     have h0:=(mem_ready.1 hr).1
     rw[heq] at h1
     rcases Nat.lt_or_ge i listed.size with h'|h'
     ·simp[h'] at h0 h1;rw[h0] at h1;cases h1
     ·simp[LY h'] at h1
    refine wpOpIn_mono ?_ (hy.later hnd hns hi hoj (hfree j oj hoj hji hjun hnot) hQ (H.2 j hj'))
    rintro a' w' ⟨hy',hS',H'⟩
    refine⟨hS',bi.first hnd hns hi hQ fuel (listed.setIfInBounds j true) a' w' (λk ok hk hki hun hno=>?_) (ready_mono hr (Mt hji)) hy' hS' ?_⟩
    ·refine hfree k ok hk hki ?_ hno
     by_cases hjk:j=k
     ·subst hjk;exact hjun
     ·rwa [getD_set_ne true hjk] at hun
    ·rw[Array.setIfInBounds_comm _ _ hji]
     exact H'
theorem uq {b:Nat}(c:P.follows .mixedOrders=true)(h:bi F n P .any ops Q S ops.size (Array.replicate ops.size false) a w.drew):(Code.region b ops true).wpIn F n P Q a w:=
 wpIn_region_any c (bi.any _ _ _ _ h)
theorem bi.take (i:Nat)(v:Value)(g:ops[i]?=some o)(f:oM ops=true)(e:Region.noSelect ops=true)(l:Region.free md ops b i=true)
  (k:(Region.ready md ops b).contains i=true) (p:∀ c a w,Q (.panic c) (a.put o.dst v) w->Q (.panic c) a w) (m:S w) (j:fS P ops S o v a)
  (h:bi F n P md ops Q S d (b.setIfInBounds i true) (a.put o.dst v) w):bi F n P md ops Q S (d+1) b a w:=
 bi.first f e g p d b a w (Region.free_spec g l) (by simpa using k) j m h
theorem bi.one (i:Nat)(m:ops[i]?=some o)(e:Region.ready md ops b=[i])
  (h:∀ K:Act->World->Prop,(∀ d w',S w'->bi F n P md ops Q S c (b.setIfInBounds i true) d w'->K d w')->if Region.wanted o (yielded ops a.tmps)=true then Oper.wpIn F n P o a w K Q else (∀ f,o.about P w a.eval=some f->F.fn f)/\K (a.put o.dst undef) w):
  bi F n P md ops Q S (c+1) b a w:=by
 refine⟨λq=>(by rw[q] at e;cases e),λj g=>?_⟩;rw[e] at g;obtain rfl:j=i:=by simpa using g
 exact wpOpIn_step m (λr p=>h r (λd w' l k=>p d w' ⟨l,k⟩))
theorem bi.done (d:Region.ready md ops b=[])(h:Q .normal a w):bi F n P md ops Q S c b a w:=by
 cases c with
 | zero=>exact⟨d,h⟩
 | succ c=>exact⟨λ_=>h,λi e=>by rw[d] at e;cases e⟩
end
def pB (P:Program)(gf:Nat)(lb:Array Value)(T:Nat->Array Value->(Nat->Prop)->World->Prop)(N:Nat)(R:Nat->Prop)(w:World):Prop:=
 ∀ (l:Nat) (J Jx:Nat->(Nat->Prop)->World->Prop) (W:World),aN R w W->w.heap.size<=l->l<W.heap.size ->
  (∀ i,dw W.heap.size (J i))->(∀ i,dw W.heap.size (Jx i)) ->
  (∀ i Y A v m,i<N->J i Y A->(∀ k,Y k->W.heap.size<=k/\k<A.heap.size)->aN R w A->T i v Y A ->
   YieldAt Fence.wide m P l v A λe B=>aN (λk=>Y k\/R k) A B/\((e=.returned (.bool true)/\J (i+1) Y B)\/(e=.returned (.bool false)/\Jx i Y B))) ->
  J 0 (λ_=>False) W ->
  Calls P gf (#[.func (.yield l) #[] #[]]++lb) W λe B=>(∃ v,e=.returned v)/\∃ Y,(∀ k,Y k->W.heap.size<=k/\k<B.heap.size)/\(J N Y B\/∃ i,i<N/\Jx i Y B)
theorem rQ {g:Operand}{ps:Array Tmp}{assign body:Code}
  {gf:Nat} {lb:Array Value} (hg:a.eval g=.func (.func gf) #[] lb) (eg:∀ args w,(callFunc gf args).run P w=.ok (.enter gf args) w)
  {T:Nat->Array Value->(Nat->Prop)->World->Prop}    (ag:Kp w0 w) (ap:∀ k,R k->k<w0.heap.size) (ay:pB P gf lb T N R w0) (aH:∀ i v Y A,T i v Y A->v.size=ps.size)
  (I:Nat->(Nat->Prop)->World->Prop) (Ix:Code->Nat->(Nat->Prop)->World->Prop)
  (hI:∀ i,dw w.heap.size (I i)) (ar:∀ c i,dw w.heap.size (Ix c i))
  (aR:∀ i v q Y A B l o,T i v q A->(∀ k,q k->Y k)->(∀ k,Y k->q k\/∃ o:Obj,A.heap[k]?=some o/\o.isCells=false)->w.heap.size<=l->A.heap[l]?=some (.loop o)->aj (λk=>k=l) A B->T i v Y B)
  (h0:I 0 (λ_=>False) w) (Ax:Array Value->Act->World->Prop)
  (aX:∀ v O A l o o',Ax v O A->w.heap.size<=l->A.heap[l]?=some (.loop o)->Ax v O (A.putObj l o'))
  (ae:∀ (l i:Nat) (Y q:Nat->Prop) (v:Array Value) (A:World) (K:Act->World->Prop),I i Y A->T i v q A->(∀ O A',Kp A A'->Ax v O A'->K O A') ->
   assign.wpIn (Fence.wide.inRound l) 4 P (Exit.then K (λ_ _ _=>False)) { tmps:=(ps.zip v).foldl (λt (p,v)=>t.setIfInBounds p v) a.tmps,defers:=[] } A)
  (ao:∀ (l i:Nat) (Y:Nat->Prop) (v:Array Value) (O:Act) (A:World),i<N->I i Y A->(∀ k,Y k->w.heap.size<=k/\k<A.heap.size)->aN R w A->T i v Y A->Ax v O A ->
   body.wpIn (Fence.wide.inRound l) 4 P (λe _ B=>aN (λk=>Y k\/R k) A B/\((e=.normal/\I (i+1) Y B)\/∃ c,kh e=some c/\Ix c i Y B)) O A)
  (an:∀ (D:Nat) (Y:Nat->Prop) (W:World),w.heap.size<=D->Y D->(∀ k,Y k->w.heap.size<=k)->I N Y W->W.heap[D]?=some (.deferred (some []))->Q .normal { a with defers:={ target:=.collected D,args:=#[] } :: a.defers } W)
  (ah:∀ (D:Nat) (c:Code) (i:Nat) (Y:Nat->Prop) (W:World),w.heap.size<=D->Y D->(∀ k,Y k->w.heap.size<=k)->i<N->Ix c i Y W->W.heap[D]?=some (.deferred (some []))->c.wp P Q { a with defers:={ target:=.collected D,args:=#[] } :: a.defers } W):
  (Code.rangeFunc g ps assign body).wp P Q a w:=by
 have hR:∀ k,R k->k<w.heap.size:=λk b=>II (ap k b) ag.size
 refine(wpIn_wide (n:=6)).1 (wpIn_rangeFunc ?_);intro fn aK;rw[show Fence.wide.round=none from rfl];let rec':LoopState->Option Code->Loop:=λst pe=>{ state:=st,pending:=pe,fn,tmps:=a.tmps,params:=ps,assign,body,defers:=w.heap.size }
 obtain⟨J,af⟩:∃ J,(w.alloc (.deferred (some []))).alloc (.loop (rec' .ready none))=J:=⟨_,rfl⟩;have aW:J.heap[w.heap.size]?=some (.deferred (some [])):=by
  rw[<-af];exact(Below.heap_alloc _ _ _ (by simp)).trans (heap_alloc_new w _)
 have aU:J.heap[w.heap.size+1]?=some (.loop (rec' .ready none)):=by
  rw[<-af];have:=heap_alloc_new (w.alloc (.deferred (some []))) (.loop (rec' .ready none));rwa [IQ] at this
 have aY:J.heap.size=w.heap.size+2:=by rw[<-af];simp
 have aB:Kp w J:=by rw[<-af];exact((Kp.refl w).alloc _).alloc _
 let V:Nat->(Nat->Prop)->World->(Nat->Prop)->Prop:=λi q A Y=>I i Y A/\(∀ k,q k->Y k)/\(∀ k,Y k->q k\/k=w.heap.size\/k=w.heap.size+1)/\(∀ k,Y k->w.heap.size<=k/\k<A.heap.size)/\Y w.heap.size/\Y (w.heap.size+1) /\
  A.heap[w.heap.size]?=some (.deferred (some []))/\A.heap[w.heap.size+1]?=some (.loop (rec' .ready none))
 let Vx:Nat->(Nat->Prop)->World->(Nat->Prop)->Code->Prop:=λi q A Y c=>Ix c i Y A/\(∀ k,q k->Y k)/\(∀ k,Y k->q k\/k=w.heap.size\/k=w.heap.size+1)/\(∀ k,Y k->w.heap.size<=k/\k<A.heap.size)/\Y w.heap.size/\Y (w.heap.size+1) /\
  A.heap[w.heap.size]?=some (.deferred (some []))/\A.heap[w.heap.size+1]?=some (.loop (rec' .done (some c)))
 have hV:∀ i,dw J.heap.size (λq A=>∃ Y,V i q A Y):=by
  rintro i q av A B ⟨Y,hi,s,z,d,j,f,hd,L⟩ y r aa;have ai:¬q w.heap.size:=λe=>by have:=(y _ e).1;omega
  have G:¬q (w.heap.size+1):=λe=>by have:=(y _ e).1;omega
  have au:=(d _ j).2;have aq:=(d _ f).2;refine⟨λk=>av k\/k=w.heap.size\/k=w.heap.size+1,hI i Y _ A B hi d (r.mono s) (λk b=>?_),λk b=>.inl b,λk b=>b,λk b=>?_,.inr (.inl rfl),.inr (.inr rfl),(r.block _ au ai).trans hd,(r.block _ aq G).trans L⟩
  ·rcases b with b|rfl|rfl
   ·exact(aa k b).imp (s k) id
   ·exact .inl j
   ·exact .inl f
  ·have:=r.size
   rcases b with b|rfl|rfl
   ·rcases aa k b with h|h
    ·have:=d k (s k h);omega
    ·have:=d _ j;omega
   ·omega
   ·omega
 have aP:∀ i,dw J.heap.size (λq A=>∃ Y c,Vx i q A Y c):=by
  rintro i q av A B ⟨Y,c,hi,s,z,d,j,f,hd,L⟩ y r aa;have ai:¬q w.heap.size:=λe=>by have:=(y _ e).1;omega
  have G:¬q (w.heap.size+1):=λe=>by have:=(y _ e).1;omega
  have au:=(d _ j).2;have aq:=(d _ f).2;refine⟨λk=>av k\/k=w.heap.size\/k=w.heap.size+1,c,ar c i Y _ A B hi d (r.mono s) (λk b=>?_),λk b=>.inl b,λk b=>b,λk b=>?_,.inr (.inl rfl),.inr (.inr rfl),(r.block _ au ai).trans hd,(r.block _ aq G).trans L⟩
  ·rcases b with b|rfl|rfl
   ·exact(aa k b).imp (s k) id
   ·exact .inl j
   ·exact .inl f
  ·have:=r.size
   rcases b with b|rfl|rfl
   ·rcases aa k b with h|h
    ·have:=d k (s k h);omega
    ·have:=d _ j;omega
   ·omega
   ·omega
 refine⟨w.heap.size+1,[{ target:=.collected w.heap.size,args:=#[] }],J,{ target:=.fn (.func gf) lb,args:=#[.func (.yield (w.heap.size+1)) #[] #[]] },J,gf,
  #[.func (.yield (w.heap.size+1)) #[] #[]]++lb,J,?_,?_,?_,?_,λ_=>by omega,?_⟩
 ·rw[<-af];exact run_enterLoop_outer _ _ _ _ _
 ·simp only[resolve,hg]
  simp[go_sem]
 ·intro f' aZ
  trivial
 ·simp[invoke,go_sem,eg]
 ·refine callsIn_wide.2 ((ay (w.heap.size+1) (λi q A=>∃ Y,V i q A Y) (λi q A=>∃ Y c,Vx i q A Y c) J (aN.of_kp (ag.trans aB)) (by have:=ag.size;omega) (by omega) hV aP ?_
   ⟨λk=>k=w.heap.size\/k=w.heap.size+1,hI 0 _ _ w J h0 (λk b=>b.elim) (aj.of_kp aB) (λk b=>.inr (by rcases b with rfl|rfl <;> omega)),λk b=>b.elim,λk b=>.inr b,λk b=>by rcases b with rfl|rfl <;> omega,.inl rfl,.inr rfl,aW,aU⟩).mono ?_)
  ·rintro i q A v m hi ⟨Y,aF,s,z,d,j,f,hd,L⟩ y aE hT
   have aT:aN R w A:=⟨by have:=(d _ f).2;omega,λk _ X=>(aE.block k (ap k X) X).trans (ag.block k (ap k X)).symm⟩;have ak:w.heap.size+1<A.heap.size:=(d _ f).2;have hy:=run_yield (P:=P) (args:=v) L (aH i v q A hT);have aQ:∀ B,aj (λk=>k=w.heap.size+1) A B->T i v Y B:=λB hB=>aR i v q Y A B _ _ hT s (λk b=>(z k b).imp id (λh=>h.elim (λe=>⟨_,e▸hd,rfl⟩) (λe=>⟨_,e▸L,rfl⟩))) (by omega) L hB
   have aS:∀ k,R k->k≠w.heap.size+1:=λk b=>by have:=hR k b;omega
   refine YieldAt.anyDepth m (m:=4) ⟨fn,_,assign,body,hy,roundIn_of_wpIn aK (ae _ i Y q v A _ aF hT ?_)⟩;intro O A1 Z aO;have al:=(Z.block _ ak).trans L;have aM:=(Z.block _ (d _ j).2).trans hd;refine⟨_,run_beginRound al rfl,?_⟩;have aA:w.heap.size+1<A1.heap.size:=(Iz.1 al).1;obtain⟨F,C⟩:∃ F,A1.putObj (w.heap.size+1) (.loop { rec' .ready none with state:=.busy })=F:=⟨_,rfl⟩;rw[C];have ax:aj (λk=>k=w.heap.size+1) A F:=by rw[<-C];exact(aj.of_kp Z).putObj _ _ (.inr rfl)
   have r:aj Y A F:=by rw[<-C];exact(aj.of_kp Z).putObj _ _ (.inr f)
   have aI:F.heap[w.heap.size+1]?=some (.loop { rec' .ready none with state:=.busy }):=by rw[<-C];exact World.putObj_heap_same aA
   have aL:F.heap[w.heap.size]?=some (.deferred (some [])):=by rw[<-C];exact(World.putObj_heap_other (by omega)).trans aM
   have aC:Ax v O F:=by rw[<-C];exact aX v O A1 _ _ _ aO (by omega) al
   have E:∀ k,Y k->w.heap.size<=k/\k<F.heap.size:=λk b=>⟨(d k b).1,II (d k b).2 r.size⟩
   have aV:=hI i Y Y A F aF d r (λk b=>.inl b);have aD:aN R w F:=(aT.trans (aN.of_step r (λk b hy=>by have:=hR k b;have:=(d k hy).1;omega)));refine wpIn_mono (ao _ i Y v O F hi aV E aD (aQ F ax) aC) ?_;have aG:∀ (u:Option Code) (B:World),aN (λk=>Y k\/R k) F B->∃ x,(Instr.endRound (w.heap.size+1) u).run P B=.ok (.bool u.isNone) x /\
     x.heap[w.heap.size+1]?=some (.loop (rec' (if u.isNone then .ready else .done) u))/\x.heap[w.heap.size]?=some (.deferred (some []))/\aj Y B x/\(∀ k,Y k->w.heap.size<=k/\k<B.heap.size)/\aN (λk=>q k\/R k) A x:=λu B hh=>by
    have H:=(hh.block _ (E _ f).2 (.inl f)).trans aI;have ad:=(hh.block _ (E _ j).2 (.inl j)).trans aL;have az:w.heap.size+1<B.heap.size:=(Iz.1 H).1;have G:∀ k,q k\/R k->k≠w.heap.size+1:=λk b=>by
     rcases b with h|h
     ·have:=(y _ h).1;omega
     ·exact aS k h
    refine⟨_,run_endRound (P:=P) u H,World.putObj_heap_same az,(World.putObj_heap_other (by omega)).trans ad,(aj.refl Y B).putObj _ _ (.inr f),λk b=>⟨(d k b).1,II (E k b).2 hh.size⟩,⟨?_,λk b X=>?_⟩⟩
    ·rw[lG];exact IU r.size hh.size
    ·have e1:F.heap[k]?=A.heap[k]?:=by
      rw[<-C];exact(World.putObj_heap_other (G k X)).trans (Z.block k b)
     refine(World.putObj_heap_other (G k X)).trans ((hh.block k (II b r.size) ?_).trans e1);exact X.elim (λh=>.inl (s k h)) .inr
   have aw:∀ (u:Option Code) (B x:World),aj Y B x->(∀ k,Y k->w.heap.size<=k/\k<B.heap.size)->(∀ k,Y k->w.heap.size<=k/\k<x.heap.size):=λ_ B x h hy k b=>⟨(hy k b).1,II (hy k b).2 h.size⟩
   rintro e a3 B ⟨hh,hp⟩;have go:∀ c,kh e=some c->Ix c i Y B->∃ v x,(Instr.endRound (w.heap.size+1) (some c)).run P B=.ok v x /\
     (aN (λk=>q k\/R k) A x/\((Ending.returned v=.returned (.bool true)/\∃ Y,V (i+1) q x Y)\/(Ending.returned v=.returned (.bool false)/\∃ Y c,Vx i q x Y c))):=λc M hx=>by
    obtain⟨x,X,H,ad,U,S,am⟩:=aG (some c) B hh;exact⟨_,x,X,am,.inr ⟨rfl,Y,c,ar c i Y Y B x hx S U (λk b=>.inl b),s,z,aw none B x U S,j,f,ad,H⟩⟩
   cases e with
   | normal=>
    rcases hp with⟨_,hi3⟩|⟨c,M,_⟩
    ·obtain⟨x,X,H,ad,U,S,am⟩:=aG none B hh
     exact⟨_,x,X,am,.inl ⟨rfl,Y,hI (i+1) Y Y B x hi3 S U (λk b=>.inl b),s,z,aw none B x U S,j,f,ad,H⟩⟩
    ·cases M
   | ret=>
    rcases hp with⟨h,_⟩|⟨c,M,hx⟩
    ·cases h
    ·cases M;exact go _ rfl hx
   | exit id=>
    rcases hp with⟨h,_⟩|⟨c,M,hx⟩
    ·cases h
    ·cases M;exact go _ rfl hx
   | goto t=>
    rcases hp with⟨h,_⟩|⟨c,M,hx⟩
    ·cases h
    ·cases M;exact go _ rfl hx
   | panic ch=>
    rcases hp with⟨h,_⟩|⟨c,M,_⟩
    ·cases h
    ·cases M
   | outgrown=>
    rcases hp with⟨h,_⟩|⟨c,M,_⟩
    ·cases h
    ·cases M
  ·rintro e W2 ⟨⟨v,rfl⟩,q,y,(⟨Y,hi,s,z,d,j,f,hd,L⟩|⟨i,aJ,Y,c,hi,s,z,d,j,f,hd,L⟩)⟩
   ·have ak:w.heap.size+1<W2.heap.size:=(d _ f).2
    have ab:(Instr.endLoop (w.heap.size+1)).run P W2=.ok none (W2.putObj (w.heap.size+1) (.loop (rec' .exhausted none))):=run_endLoop (P:=P) L (by simp[rec']);refine⟨none,_,ab,an _ Y _ (IB _) j (λk b=>(d k b).1) (hI N Y Y W2 _ hi d ((aj.refl _ _).putObj _ _ (.inr f)) (λk b=>.inl b)) ((World.putObj_heap_other (by omega)).trans hd)⟩
   ·have ak:w.heap.size+1<W2.heap.size:=(d _ f).2
    have ab:(Instr.endLoop (w.heap.size+1)).run P W2=.ok (some c) (W2.putObj (w.heap.size+1) (.loop (rec' .exhausted (some c)))):=run_endLoop (P:=P) L (by simp[rec']);exact⟨some c,_,ab,wpIn_wide.2 (ah _ c i Y _ (IB _) j (λk b=>(d k b).1) aJ (ar c i Y Y W2 _ hi d ((aj.refl _ _).putObj _ _ (.inr f)) (λk b=>.inl b)) ((World.putObj_heap_other (by omega)).trans hd))⟩
theorem rR (A:World):Kp A A.drew:=Kp.drew (a:=A) (b:=A) (Kp.refl A)
def Apt (Z:Nat->Prop)(v:Value):Prop:=∀ g,v.ownBlock=some g->¬Z g
theorem rS {f:World}{b k:Nat}{xs:List Value}(h:A.ownsRow b e 1 v k xs)(i:aj Y A f)(j:Apt Y v):f.ownsRow b e 1 v k xs:=by
 refine⟨h.1,?_⟩;rcases h.2 with l|⟨g,c,a,rfl,m,d,rest⟩
 ·exact .inl l
 ·exact .inr ⟨g,c,a,rfl,m,(i.block g (Iz.1 d).1 (j g rfl)).trans d,rest⟩
structure en (tS tE:TypeId)(w0:World)(R:Nat->Prop)(L:List Nat)(Y:Nat->Prop)(A:World)(v:Value):Prop where
 box:Boxed A w0.heap.size tS v
 own:ON tE A w0.heap.size v L
 apt:Apt (λk=>Y k\/R k) v
 kp:Kp w0 A
theorem en.minds {o p:TypeId}(r:w0.heap.size<n):dw n (λY A=>∃ v,en o p w0 R L Y A v):=by
 rintro Y s A t ⟨v,m,l,e,j⟩ f b d;have c:¬Y w0.heap.size:=λh=>by have:=f _ h;omega
 refine⟨v,(b.block _ m.lt c).trans m,rS l b (λg d h=>e g d (.inl h)),λg a h=>?_,Below.trans j (b.below j.size (λk q=>by have:=f k q;omega))⟩;rcases h with h|h
 ·rcases d g h with i|i
  ·exact e g a (.inl i)
  ·have:=(Jw l g a).2;omega
 ·exact e g a (.inr h)
theorem en.next {j i:TypeId}(l:j≠i){x:Nat}{a:World}{c:Value}{d:Obj}
  (h:en j i w0 R L Y A v) (z:w0.heap.size<A.heap.size) (f:∀ k,Y k\/R k->k≠w0.heap.size/\k<A.heap.size)
  (w:ON i a w0.heap.size c (L++[x])) (r:(A.alloc d).grownBy a v.ownBlock) (m:c.ownBlock=v.ownBlock\/c.ownBlock=some (A.alloc d).heap.size):
  a.cell? ⟨w0.heap.size,0,none⟩=some v/\a.frozen? ⟨w0.heap.size,0,none⟩=false/\en j i w0 R (L++[x]) Y (a.setCell ⟨w0.heap.size,0,none⟩ c) c/\aN (λk=>Y k\/R k) A (a.setCell ⟨w0.heap.size,0,none⟩ c):=by
 obtain⟨o,u,t,_,n⟩:=Boxed.appended h.box l h.own (by omega) (IB _) w r;refine⟨o.cell,o.frozen,⟨u,t,λg b p=>?_,Below.trans h.kp (n.mono (IB _))⟩,⟨?_,λk y q=>?_⟩⟩
 ·rcases m with e|e
  ·exact h.apt g (e▸b) p
  ·have s:=f g p
   rw[e] at b;simp at b;omega
 ·have:=n.size;omega
 ·have s:=f k q
  refine(Below.heap_setCell a _ _ k (λe=>s.1 (by simpa using e))).trans ((r.block k (by simp;omega) (λe=>?_)).trans (Below.heap_alloc A _ k y));exact h.apt k e.symm q
theorem bi.two {c:Array Oper}{g:Region.Mode}{S:World->Prop}(i j:Nat){u:Oper}(v:c[i]?=some o)(t:c[j]?=some u)(m:Region.ready g c b=[i,j])
  (y:∀ K:Act->World->Prop,(∀ e w',S w'->bi F n P g c Q S d (b.setIfInBounds i true) e w'->K e w')->if Region.wanted o (yielded c a.tmps)=true then Oper.wpIn F n P o a w K Q else (∀ f,o.about P w a.eval=some f->F.fn f)/\K (a.put o.dst undef) w)
  (x:∀ K:Act->World->Prop,(∀ e w',S w'->bi F n P g c Q S d (b.setIfInBounds j true) e w'->K e w')->if Region.wanted u (yielded c a.tmps)=true then Oper.wpIn F n P u a w K Q else (∀ f,u.about P w a.eval=some f->F.fn f)/\K (a.put u.dst undef) w):
  bi F n P g c Q S (d+1) b a w:=by
 refine⟨λz=>(by rw[z] at m;cases m),λk s=>?_⟩;rw[m] at s;have p:k=i\/k=j:=by simpa using s
 rcases p with rfl|rfl
 ·exact wpOpIn_step v (λr q=>y r (λe w' l h=>q e w' ⟨l,h⟩))
 ·exact wpOpIn_step t (λr q=>x r (λe w' l h=>q e w' ⟨l,h⟩))
theorem Fp {d:TypeId}(S:bz P d e)(l:d≠e){D:Act->World->Prop}(s y:Operand)(x:Nat)
  (m:o.op=.call { callee:=.builtin .append,args:=#[s,y],argTypes:=#[d,d] }) (M:a.eval s=v) (q:en d e w0 R L Y A v) (K:a.eval y=.slice (some ⟨A.heap.size,0,none⟩) 1 1) (X:L.length<=1000)
  (t:∀ k,Y k\/R k->k≠w0.heap.size/\k<A.heap.size)
  (T:∀ g c h,h.cell? ⟨w0.heap.size,0,none⟩=some v->h.frozen? ⟨w0.heap.size,0,none⟩=false->en d e w0 R (L++[x]) Y (h.setCell ⟨w0.heap.size,0,none⟩ (.slice (some ⟨g,0,none⟩) (L.length+1) c)) (.slice (some ⟨g,0,none⟩) (L.length+1) c) ->
   aN (λk=>Y k\/R k) A (h.setCell ⟨w0.heap.size,0,none⟩ (.slice (some ⟨g,0,none⟩) (L.length+1) c))->D (a.put o.dst (.slice (some ⟨g,0,none⟩) (L.length+1) c)) h):
  Oper.wpIn F n P o a (A.alloc (.cells #[iv x] e)) D Q:=by
 obtain⟨i,z,O,J,f,r,j⟩:=S.hi;have w:w0.heap.size<A.heap.size:=q.box.lt;have b:=ON.kp q.own ((Kp.refl A).alloc (.cells #[iv x] e));unfold ON at b;rw[Jl] at b;obtain⟨W,h,N,C,V,_,U⟩:=run_append_own_at (P:=P) _ w0.heap.size d o.type e i z 1 i.bytes S.ht O J f rfl j (by decide) v L.length (L.map iv) b ⟨A.heap.size,0,none⟩ 1 1 [iv x] rfl (cell_one_new A _ _) (by intro u B;simp at B;subst B;rfl) (by unfold maxLen;omega) (by have:=Kc (show L.length+1<=1001 by omega) r;omega) (by simp;omega);obtain⟨g,c,rfl⟩:=ownsRow_succ C;obtain⟨I,H,G,E⟩:=en.next l q w t (x:=x) (by unfold ON;rw[JZ,IE,Jl];exact C) V U;unfold Oper.wpIn;refine⟨by simp[Oper.about,m,resolve,Target.leads,Sem.run_pure],?_⟩;rw[Oper.semAt_plain F _ _ (by rw[m];intro c p;cases p)];simp[execOp,m,resolve,invoke,builtin,M,K,N,Result.andThen];exact T _ _ _ I H G E
theorem en.on {a b:TypeId}{c:World}(h:en a b w0 R L Y A v)(k:Kp A c):en a b w0 R L Y c v:=
 ⟨(k.block _ h.box.lt).trans h.box,ON.kp h.own k,h.apt,Below.trans h.kp (k.mono h.kp.size)⟩
theorem rT {b:TypeId}(S:bz P b e)(f:b≠e){i:Act->World->Prop}(s y:Operand)(x:Nat)
  (m:o.op=.call { callee:=.builtin .append,args:=#[s,y],argTypes:=#[b,b] }) (p:en b e w0 R L Y A v) (q:L.length<=1000)
  (h:∀ k,Y k\/R k->k≠w0.heap.size/\k<A.heap.size) (l:a.eval s=v) (j:a.eval y=.slice (some ⟨A.heap.size,0,none⟩) 1 1)
  (r:∀ g c d,d.cell? ⟨w0.heap.size,0,none⟩=some v->d.frozen? ⟨w0.heap.size,0,none⟩=false->en b e w0 R (L++[x]) Y (d.setCell ⟨w0.heap.size,0,none⟩ (.slice (some ⟨g,0,none⟩) (L.length+1) c)) (.slice (some ⟨g,0,none⟩) (L.length+1) c) ->
   aN (λk=>Y k\/R k) A.drew (d.setCell ⟨w0.heap.size,0,none⟩ (.slice (some ⟨g,0,none⟩) (L.length+1) c))->i (a.put o.dst (.slice (some ⟨g,0,none⟩) (L.length+1) c)) d):
  Oper.wpIn F n P o a (A.alloc (.cells #[.int .i64 (x:Int)] e)).drew i Q:=
 Fp S f s y x m l (p.on (Kp.refl A).drew) j q h r
attribute [local go_sem] Oper.semAt_some
theorem Gv (a:Option Addr)(n c:Nat)(w:World):
  Calls prog 144 #[.slice a n c] w λe w'=>e=.returned (.func (.func 175) #[] #[.pointer (some ⟨w.heap.size,0,none⟩)])/\w.alloc (.cells #[.slice a n c] 34)=w':=by
 go_enter func144,ntmps144;go_wp2;go_ret;exact⟨rfl,rfl⟩
theorem Gw (s:List Nat)(N:Nat)(a:Option Addr)(c E C t:Nat)(w:World)(hN:N<=100000)(L:w.cell? ⟨E,0,none⟩=some (.slice a N c))
  (U:0<N->a=some ⟨C,t,none⟩/\∀ i,i<N->w.cell? ⟨C,t+i,none⟩=some (.int .i64 ((s.getD i 0:Nat):Int))):
  pB prog 175 #[.pointer (some ⟨E,0,none⟩)] (λi v _ _=>v=#[.int .i64 (((N - 1 - i:Nat)):Int),.int .i64 ((s.getD (N - 1 - i) 0:Nat):Int)]) N (λk=>k=E\/k=C) w:=by
 intro l J Jx W H af ae Z ag X h0;have D:=H.cell L (.inl rfl);have S:=Lib.hid L;have HJ:=Lib.hid Z;have HY:=Lib.hid X;have HC:=Lib.hid U;have HH:=Lib.hid H;have i0:IntKind.i64.wrap ((N:Int) - 1)=(N:Int) - 1:=IA _ (by omega);clear Z X L U H;refine(callsIn_wide (n:=5)).1 ?_;refine callsIn_of_wp func175 rfl trivial ?_ rfl;simp only[ntmps175,JE,JV,JF,Jf,Jq,Nat.reduceAdd,Nat.reduceSub,JB,JC,JM,Js,JG];gi_wp2
 gi_loopw [3] (λp wr=>∃ (i:Nat) (Y:Nat->Prop),i<=N/\p=.int .i64 ((N:Int) - 1 - (i:Int))/\aN (λk=>k=E\/k=C) w wr/\J i Y wr/\(∀ k,Y k->W.heap.size<=k/\k<wr.heap.size)/\W.heap.size<=wr.heap.size) (λp _=>(intOf p+1).toNat)
 case atStart=>exact⟨0,_,by omega,by simp,HH.out,h0,λ_ h=>h.elim,IB _⟩
 case round=>
  clear D h0;obtain⟨i,Y,hi,rfl,b,j,g,m⟩:=hrel;have ab:prog.follows .mixedOrders=true:=by kernel_rfl
  have ad:prog.follows .lateStores=true:=by kernel_rfl
  have D:=b.cell S.out (.inl rfl);by_cases o:i<N
  ·obtain⟨M,K⟩:∃ M,N - 1 - i=M:=⟨_,rfl⟩
   have q:(N:Int) - 1 - (i:Int)=(M:Int):=by omega
   obtain⟨rfl,z⟩:=HC.out (by omega);have c2:=b.cell (z M (by omega)) (.inr rfl);have i2:(M:Int)<(N:Int):=by omega
   have i1:IntKind.i64.wrap ((M:Int) - 1)=(M:Int) - 1:=IA _ (by omega);have A:(#[.int .i64 (M:Int),.int .i64 ((s.getD M 0:Nat):Int)]:Array Value)=#[.int .i64 (((N - 1 - i:Nat)):Int),.int .i64 ((s.getD (N - 1 - i) 0:Nat):Int)]:=by rw[K]
   obtain⟨fn,tmps,F,aa,T,I⟩:=HY.out i Y wr #[.int .i64 (M:Int),.int .i64 ((s.getD M 0:Nat):Int)] 4 o j g b A;have G:=Lib.hid (IC K (IC o q));have f:=Lib.hid (IC g (IC b m));rw[q];generalize ((s.getD M 0:Nat):Int)=V at *;clear z A K q g b m j o hi;gi_wp2
   refine I.mono ?_;rintro e w2 ⟨d,(⟨rfl,y⟩|⟨rfl,u⟩)⟩
   ·have R:=Lib.hid (f.out.2.1.trans (d.mono (λ_ h=>.inr h)))
    have r:Hid (∀ k,Y k->W.heap.size<=k/\k<w2.heap.size):=λk h=>⟨(f.out.1 k h).1,II (f.out.1 k h).2 d.size⟩
    have P:=Lib.hid (IU f.out.2.2 d.size);have Q:=Lib.hid y;clear T I d y D c2;gi_wp2
    go_roundw
    case rel=>exact⟨i+1,Y,G.out.2.1,by have:=G.out;congr 1 <;> omega,R.out,Q.out,r.out,P.out⟩
    case measure=>have:=G.out;simp[intOf] <;> omega
   ·have r:Hid (∀ k,Y k->W.heap.size<=k/\k<w2.heap.size):=λk h=>⟨(f.out.1 k h).1,II (f.out.1 k h).2 d.size⟩
    have O:=Lib.hid u;clear T I d u D c2;gi_wp2
    refine bodyPost_ret (results_none rfl _ _ _) rfl ?_;exact⟨⟨_,rfl⟩,Y,r.out,.inr ⟨i,G.out.2.1,O.out⟩⟩
  ·obtain rfl:i=N:=by omega
   have x:¬(0:Int)<=(i:Int) - 1 - (i:Int):=by omega
   have e:(i:Int) - 1 - (i:Int) = -1:=by omega
   have B:=Lib.hid (IC g j);rw[e];clear g j b m x e;gi_wp2
   refine bodyPost_end (results_none rfl _ _ _) rfl ?_;exact⟨⟨_,rfl⟩,Y,B.out.1,.inl B.out.2⟩
section
open Go.ChangeShapes Go.Deep Go.WideShapes
section
variable {H : Type} {enc : TypeId × Value -> H} {P : Program} {w : World} {base : Nat} {spare : Nat -> Bool} {held : Bool}
theorem Iq {c:Array Field}{d:DataW H}{s:Nat}(g:P.underlying t=some (.struct c))(q:P.cellsOf t=N)
  (k:Value.okWide P w r s t v) (h:DataW.Trod enc P w base spare held t v d p):
  ∃ (cs:List Value) (xs:List (DataW H × List MemPlace)) (n:Nat),v=.agg cs.toArray/\cs.length=N/\d=.agg (xs.map (·.1))/\xs.length=c.size /\
   ∀ (i:Nat) (f:Field),c[i]?=some f->DataW.trod enc P w base spare held n f.type ((cs.drop f.offset).take (P.cellsOf f.type))=xs[i]?:=by
 obtain⟨cs,rfl,b⟩:=okWide_struct g k;obtain⟨l⟩:=cs;obtain⟨j,o⟩:=h;obtain⟨xs,n,_,e,_,a,m⟩:=DataW.trod_struct g o;simp only[Prod.mk.injEq] at e;exact⟨l,xs,n,rfl,b.trans q,e.1,a,m⟩
theorem Ir {i g f e c b:Field}{d:DataW H}{X:Nat}(V:P.underlying t=some (.struct #[i,g,f,e,c,b]))(W:P.cellsOf t=8)
  (F:[(i.offset,P.cellsOf i.type),(g.offset,P.cellsOf g.type),(f.offset,P.cellsOf f.type),(e.offset,P.cellsOf e.type),(c.offset,P.cellsOf c.type),(b.offset,P.cellsOf b.type)]=([(0,1),(1,1),(2,1),(3,1),(4,1),(5,3)]:List (Nat × Nat)))
  (U:Value.okWide P w r X t v) (h:DataW.Trod enc P w base spare held t v d p):
  ∃ (C B A z y x u s:Value) (q o m l k j:DataW H × List MemPlace) (n:Nat),v=.agg #[C,B,A,z,y,x,u,s]/\d=.agg [q.1,o.1,m.1,l.1,k.1,j.1]/\DataW.trod enc P w base spare held n i.type [C]=some q/\DataW.trod enc P w base spare held n g.type [B]=some o/\DataW.trod enc P w base spare held n f.type [A]=some m/\DataW.trod enc P w base spare held n e.type [z]=some l/\DataW.trod enc P w base spare held n c.type [y]=some k/\DataW.trod enc P w base spare held n b.type [x,u,s]=some j:=by
 obtain⟨cs,xs,n,rfl,E,rfl,D,a⟩:=Iq V W U h
 simp only[Mq,Prod.mk.injEq,and_true] at F
 obtain⟨⟨M,T⟩,⟨L,S⟩,⟨K,R⟩,⟨J,Q⟩,⟨I,O⟩,⟨G,N⟩⟩:=F
 match cs,E,xs,(show xs.length=6 from D) with
 | [C,B,A,z,y,x,u,s],_,[q,o,m,l,k,j],_=>
  exact⟨C,B,A,z,y,x,u,s,q,o,m,l,k,j,n,rfl,rfl,by simpa [M,T] using a 0 i rfl,by simpa [L,S] using a 1 g rfl,by simpa [K,R] using a 2 f rfl,by simpa [J,Q] using a 3 e rfl,by simpa [I,O] using a 4 c rfl,by simpa [G,N] using a 5 b rfl⟩
end
section
variable {H : Type} {enc : TypeId × Value -> H} {P : Program} {w : World} {base : Nat} {spare : Nat -> Bool} {held : Bool}
theorem Is {j g f:Value}{x:DataW H × List MemPlace}(v:P.underlying t=some (.array 3 e))(A:P.underlying e=some (.int .u8))(C:P.cellsOf e=1)(B:P.cellsOf t=3)
  (h:DataW.trod enc P w base spare held n t [j,g,f]=some x):
  ∃ d b a:Int,(j=.int .u8 d/\g=.int .u8 b/\f=.int .u8 a)/\(Lit.int .u8 d).wf=true/\(Lit.int .u8 b).wf=true/\(Lit.int .u8 a).wf=true:=by
 obtain⟨xs,m,_,_,E,s,z⟩:=DataW.trod_array v h;have key:∀ i,i<3->∀ c,([j,g,f].drop i).take 1=[c]->∃ y:Int,c=.int .u8 y/\(Lit.int .u8 y).wf=true:=λi D c k=>by
  have l:=z i D;rw[C,Mk,k,Iy (by omega)] at l;obtain⟨y,r,_,u⟩:=Lv A l;cases r;exact⟨_,rfl,u⟩
 obtain⟨d,rfl,q⟩:=key 0 (by decide) j rfl;obtain⟨b,rfl,p⟩:=key 1 (by decide) g rfl;obtain⟨a,rfl,o⟩:=key 2 (by decide) f rfl;exact⟨d,b,a,⟨rfl,rfl,rfl⟩,q,p,o⟩
end
