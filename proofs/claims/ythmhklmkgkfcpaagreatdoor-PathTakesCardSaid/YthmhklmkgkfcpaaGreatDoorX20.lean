import Derived.Test.YthmhklmkgkfcpaaGreatDoorX19
import Derived.Deep.AppendLies
set_option linter.all false
set_option maxHeartbeats 8000000
set_option maxRecDepth 100000
namespace Go.Proofs.YthmhklmkgkfcpaaGreatDoor
open Go.Proofs.Tryz Go.RowKit
variable {A w w' w0:World}{B K N b c d f g i j k m n:Nat}{P:Program}{Q:Exit->Act->World->Prop}{R Y:Nat->Prop}{T e:TypeId}{a:Act}{l s:List UInt8}{o:Oper}{p:Option Addr}{rest:List Oper}{t:List Nod}{v:Value}{xs:List Nat}
def nS (who:List (List Int))(k:Nat):Nat:=((who.take k).map List.length).sum
theorem xu {who:List (List Int)}(h:k<who.length):nS who (k+1)=nS who k+(who.getD k []).length:=by
 unfold nS;rw[JZ h,LL,List.sum_append,JF,JG h];simp
theorem xv {who:List (List Int)}{M:Nat}(hM:∀ k,k<who.length->(who.getD k []).length<=M):∀ k,k<=who.length->nS who k<=k*M
 | 0,_=>by simp[nS]
 | k+1,h=>by
  rw[xu (by omega),ME,MF]
  have:=xv hM k (by omega)
  have:=hM k (by omega)
  omega
def stS (t:List Nod)(secret info:List UInt8)(who:List (List Int))(k:Nat):St:=⟨dX (bH (aU secret k) eI),de t secret info (aU secret k) (nS who k) (who.getD k [])⟩
theorem xx (t:List Nod)(secret info:List UInt8):∀ (l:List (List Int)) (s:List UInt8) (n k:Nat),k<l.length->(makeS t secret info s n l)[k]?=some ⟨dX (bH (aU s k) eI),de t secret info (aU s k) (n+nS l k) (l.getD k [])⟩
 | [],_,_,_,h=>absurd h (LT _)
 | who :: l,s,n,0,_=>by simp[nS];rfl
 | who :: l,s,n,k+1,h=>by
  show(makeS t secret info (bH s fF) (n+who.length) l)[k]?=_
  rw[xx t secret info l _ _ k (by simpa using h)]
  have e1:aU (bH s fF) k=aU s (k+1):=by
   have:=jT s 1 k
   rw[MW] at this
   exact this.symm
  have e2:nS (who :: l) (k+1)=who.length+nS l k:=by simp[nS]
  rw[e1,e2,Mn]
  rfl
theorem Ei {secret info:List UInt8}{who:List (List Int)}(h:k<who.length):(makeS t secret info secret 0 who).take (k+1)=(makeS t secret info secret 0 who).take k++[stS t secret info who k]:=by
 have b:=pF t secret info who secret 0;have a:=xx t secret info who secret 0 k h;rw[JZ (by omega)];rw[JG (by omega)] at a;rw[Ms a,Lf];rfl
def seS (t:List Nod)(secret info s:List UInt8)(n:Nat)(l:List Int)(j:Nat):Se:=⟨ix (ats t (l.getD j 0).toNat).pub (eD secret (n+j)),iz (ats t (l.getD j 0).toNat).pub (eD secret (n+j)) info s⟩
theorem sG (t:List Nod)(secret info s:List UInt8):∀ (l:List Int) (n j:Nat),j<l.length->(de t secret info s n l)[j]?=some (seS t secret info s n l j)
 | [],_,_,h=>absurd h (LT _)
 | y :: l,n,0,_=>rfl
 | y :: l,n,j+1,h=>by
  show(de t secret info s (n+1) l)[j]?=_
  rw[sG t secret info s l (n+1) j (by simpa using h)]
  unfold seS
  rw[show n+1+j=n+(j+1) by omega]
  rfl
theorem Ej {secret info:List UInt8}{l:List Int}(h:j<l.length):(de t secret info s n l).take (j+1)=(de t secret info s n l).take j++[seS t secret info s n l j]:=by
 have b:=nP t secret info s l n;have a:=sG t secret info s l n j h;rw[JZ (by omega)];rw[JG (by omega)] at a;rw[Ms a]
theorem xy:∀ (l:List Nat) (own:List Sd) (s:List UInt8) (x:Nat),cX own s (l++[x])=dY (cX own s l) ⟨(x:Int),bH (aU s l.length) eI⟩
 | [],own,s,x=>rfl
 | y :: l,own,s,x=>by
  show cX (dY own _) (bH s fF) (l++[x])=dY (cX (dY own _) (bH s fF) l) _
  rw[xy l]
  have:=jT s 1 l.length
  rw[MW] at this
  rw[show aU (bH s fF) l.length=aU s (l.length+1) from this.symm]
  rfl
theorem Ek {own:List Sd}{l:List Nat}(h:k<l.length):cX own s (l.take (k+1))=dY (cX own s (l.take k)) ⟨((l.getD k 0:Nat):Int),bH (aU s k) eI⟩:=by
 rw[JZ h,xy,Ki,MS (by omega),JF,JG h];rfl
theorem El (a:aD t K)(f:i<2 ^ K)(h:k<K):(cK t i k).length<=2048/\∀ l∈cK t i k,∃ y:Nat,l=(y:Int)/\y<t.length/\(ats t y).kind≠0:=by
 have b:sq (i / 2 ^ k)<2 ^ (K - k):=by
  have c:=ke (K:=K) (j:=0) (q:=i) (i:=k) (by simpa using f) (by omega);rw[Lf] at c;obtain⟨d,g⟩:∃ d,K - k=d+1:=⟨K - k - 1,by omega⟩;rw[g,bi] at c ⊢;generalize i / 2 ^ k=r at *;generalize 2 ^ d=D at *;unfold sq;split <;> omega
 have e:cK t i k=bt t k (sq (i / 2 ^ k)):=oR a (by omega) b;rw[e];refine⟨?_,AD a k _ (by omega) b⟩;have c:=nW a k _ (by omega) b;have n:=bP (K:=k+1) (by have:=a.le;omega);have m:=bi k;omega
theorem lV {a:Nat}(e:aD t K)(f:i<2 ^ K)(m:a<(aT t i K).length):((aT t i K).getD a []).length<=2048/\∀ j,j<((aT t i K).getD a []).length->∃ y:Nat,((aT t i K).getD a []).getD j 0=(y:Int)/\y<t.length/\(ats t y).kind≠0:=by
 have l:=(gy t i K).2;obtain⟨k,d,_,_,_,c,_⟩:=DE (t:=t) (K:=K) (i:=i) (a:=a) [] [] [] (by omega);rw[c];obtain⟨h,g⟩:=El e f d;refine⟨h,λj b=>g _ ?_⟩;rw[JF,JG b];exact Ko b
theorem Em (h:n<4294967296):fy (n:Int) 4=be 4 n:=by
 unfold fy;rw[if_pos]
 ·rfl
 ·unfold eQ
  refine⟨by omega,by omega,by omega,?_⟩;show(n:Int)<4294967296
  omega
theorem En (pub half info b:List UInt8):(iy pub half info b).length=b.length+32:=rV _ _ _ _
theorem sH (t:List Nod)(K i:Nat){secret:List UInt8}(seed info:List UInt8)(c:secret.length=32)(k j:Nat):
  (aH (am (bS t K i seed secret info).step k).fors j).half.length<=64/\(aH (am (bS t K i seed secret info).step k).fors j).b.length<=64:=by
 have a:∀ l:List Se,l.length<=j->(aH l j).half.length<=64/\(aH l j).b.length<=64:=λl h=>by
  have e:aH l j=⟨[],[]⟩:=by unfold aH;rw[JF,Mi h];rfl
  rw[e];exact⟨JW _,JW _⟩
 by_cases d:k<(aT t i K).length
 ·obtain⟨n',e⟩:=pP t secret info (aT t i K) secret 0 k d
  show(aH (am (makeS t secret info secret 0 (aT t i K)) k).fors j).half.length<=64/\(aH (am (makeS t secret info secret 0 (aT t i K)) k).fors j).b.length<=64
  rw[e];by_cases f:j<((aT t i K).getD k []).length
  ·have g:aH (de t secret info (aU secret k) n' ((aT t i K).getD k [])) j=seS t secret info (aU secret k) n' ((aT t i K).getD k []) j:=by
    unfold aH;rw[JF,sG _ _ _ _ _ _ _ f];rfl
   rw[g];refine⟨?_,?_⟩
   ·show(ix _ _).length<=64
    unfold ix;split
    ·rw[gO];decide
    ·exact JW _
   ·show(iz _ _ _ _).length<=64
    unfold iz;split
    ·rw[En,jS c];decide
    ·exact JW _
  ·exact a _ (by rw[nP];omega)
 ·have e:am (bS t K i seed secret info).step k=⟨[],[]⟩:=by
   unfold am;rw[JF,Mi (by have:=(lU t K i seed secret info).1;omega)];rfl
  rw[e];exact a [] (JW _)
theorem Eo {secret:List UInt8}(seed info:List UInt8)(f:aD t K)(g:i<2 ^ K)(d:secret.length=32):
  (∀ k j,(aH (am (bS t K i seed secret info).step k).fors j).b.length<=1600)/\∀ j,j<(bS t K i seed secret info).step.length->(am (bS t K i seed secret info).step j).pub.length<=10000/\(am (bS t K i seed secret info).step j).fors.length<=10000/\∀ k,k<(am (bS t K i seed secret info).step j).fors.length->(aH (am (bS t K i seed secret info).step j).fors k).half.length<=10000/\(aH (am (bS t K i seed secret info).step j).fors k).b.length<=10000:=by
 have c:=lU t K i seed secret info;refine⟨λk j=>Kd (sH t K i seed info d k j).2 (by decide),λj e=>⟨?_,?_,λk _=>⟨Kd (sH t K i seed info d j k).1 (by decide),Kd (sH t K i seed info d j k).2 (by decide)⟩⟩⟩
 ·rw[(c.2.2 j (by rw[<-c.1];exact e)).2];decide
 ·rw[(c.2.2 j (by rw[<-c.1];exact e)).1]
  exact Kd (lV (a:=j) f g (by rw[<-c.1];exact e)).1 (by decide)
theorem nX {c:Array Oper}(k:o.guard=none)(u:o.dst=none)(e:TypeId)(x y:Operand)(t:o.op=.store e x y)
  (b f:Nat) (v:Value) (r:a.eval x=.pointer (some ⟨b,f,none⟩)) (q:a.eval y=v) (p:v.oneCell'=true) (m:w.there b f 1) (n:(P.info? e).map (·.size)=some 1)
  (h:∀ w',w'=w.setCells b f [v]->wpList P c Q rest a w'):wpList P c Q (o :: rest) a w:=by
 have A:v.cells=#[v]:=by cases v <;> first|rfl|cases p
 have:=run_storeCells_cells (P:=P) b f [v] 0 w (λj g=>by simpa using (m j (by simpa using g)).1) (λj g=>by simpa using (m j (by simpa using g)).2)
  (λz l=>by simp at l;subst l;exact p)
 have d:(storeVar e ⟨b,f,none⟩ v).run P w=.ok () (w.setCells b f [v]):=by
  cases hq:P.info? e with
  | none=>simp[hq] at n
  | some i=>
   have s:i.size=1:=by simpa [hq] using n
   simp only[Mj] at this;simp[storeVar,sizeOf,typeInfo,hq,A,s,this]
 refine wpList_plain k λ_ B=>?_
 unfold Oper.wp execOp;simp only[t,r,q,Instr.storeAt,Instr.sureAddr,Sem.run_bind,Sem.run_pure,Result.andThen_ok,d];refine B _ _ ?_;rw[u];exact h _ rfl
theorem xB:(prog.info? 24).map (·.size)=some 1:=by kernel_rfl
theorem xC:(prog.info? 34).map (·.size)=some 1:=by kernel_rfl
theorem Et {R:Nat->Value->Value->Value->Prop}(h:∀ i,i<N->∃ p u q,R i p u q):∃ P U Q:Nat->Value,∀ i,i<N->R i (P i) (U i) (Q i):=by
 have b:∀ i,∃ p u q,i<N->R i p u q:=λi=>by
  by_cases a:i<N
  ·obtain⟨p,u,q,c⟩:=h i a
   exact⟨p,u,q,λ_=>c⟩
  ·exact⟨undef,undef,undef,λd=>absurd d a⟩
 exact⟨λi=>(b i).choose,λi=>(b i).choose_spec.choose,λi=>(b i).choose_spec.choose_spec.choose,λi a=>(b i).choose_spec.choose_spec.choose_spec a⟩
theorem Eu (t:List Nod)(i:Nat)(a:i<t.length):t.set i (ats t i)=t:=by
 rw[kg a];exact Mz a
theorem xD {b:Array Oper}(e:o.guard=none)(p:o.dst=none)(d:TypeId)(x y:Operand)(m:o.op=.store d x y)
  (g f:Nat) (cs:List Value) (k:a.eval x=.pointer (some ⟨g,f,none⟩)) (j:a.eval y=.agg cs.toArray) (i:cs.length=5) (c:∀ z∈cs,z.oneCell'=true) (l:w.there g f 5) (n:(P.info? d).map (·.size)=some 5)
  (h:∀ w',w'=w.setCells g f cs->wpList P b Q rest a w'):wpList P b Q (o :: rest) a w:=by
 refine wpList_store_mid e d x y m g f cs.toArray k j (by rw[Lk,i];exact l) (by rw[n,Lk,i]) (all_oneCell_toArray c) ?_;rw[p];exact h _ rfl
theorem NX.at {m:TypeId}{P U H:Nat->Value}{S:Nat->Prop}(h:NX e m w B (.slice (some ⟨g,0,none⟩) N c) t P U H S)(i:Nat)(d:i<t.length):NAt w g (i*5) (ats t i) (P i) (U i) (H i):=by
 obtain⟨us,k,n,f⟩:=h.row;have l:=h.len;subst l;refine⟨λj x b=>?_,h.ins i d⟩;have a:j<5:=(Ks.1 b).1;rw[k.cellAt (i*5+j) (by omega),f i d j a];exact b
theorem eZ {f:Func}{p q:Tmp}{a:TypeId}(h:f.results=#[.cell p a,.tmp q])(tmps:Array Value)(w:World)(g:Nat)(t:TypeId)(cs:Array Value)(e:Nat × Nat)(d:TypeDesc)(v:Value)
  (k:tmps.getD p undef=.pointer (some ⟨g,0,none⟩)) (m:w.heap[g]?=some (.cells cs t e))
  (i:P.underlying a=some d) (n:(match d with|.struct _|.array _ _=>true|_=>false)=true) (l:(P.info? a).map (·.size)=some cs.size) (j:tmps.getD q undef=v):
  (results f tmps).run P w=.ok (.tuple #[.agg cs,v]) w:=by
 have c:tmps[p]?.getD undef=.pointer (some ⟨g,0,none⟩):=by simpa using k
 have b:tmps[q]?.getD undef=v:=by simpa using j
 simp[results,h,c,b,asAddr,run_loadVar_row w g t a cs e d m i n l]
theorem eR {b:Array Oper}(e:o.guard=none)(q:o.dst=none)(d:TypeId)(x y:Operand)(m:o.op=.store d x y)
  (g:Nat) (T:TypeId) (cs vs:Array Value) (l:a.eval x=.pointer (some ⟨g,0,none⟩)) (j:a.eval y=.agg vs) (i:Bx w g T cs) (f:vs.size=cs.size) (c:∀ z∈vs.toList,z.oneCell'=true) (n:(P.info? d).map (·.size)=some vs.size)
  (h:∀ w',Bx w' g T vs->w.grownBy w' (some g)->(∀ w0,Kp w0 w->w0.heap.size<=g->Kp w0 w')->wpList P b Q rest a w'):wpList P b Q (o :: rest) a w:=by
 refine wpList_store_mid e d x y m g 0 vs l j (by rw[f];exact i.there) n (all_oneCell_toArray (cs:=vs.toList) c) ?_;rw[q];exact h _ (i.fill vs f) (gI w g 0 vs.toList 0) λw0 k p=>k.setCells p vs.toList 0
theorem xF (k l:List UInt8):iR k (dr l [] 32) 32=bH k l:=by
 unfold bH cC iS;rw[if_pos (by decide)];rfl
theorem xG (d:Value)(s:ByteArray)(k:List UInt8)(w:World)(g:Rd w d k)(m:s.size<=300)(b:k.length<=2000):
  Calls prog 32 #[d,.string s] w λe w'=>(∃ v,e=.returned v/\Rd w' v (bH k s.data.toList)/\ba w.heap.size v)/\Kp w w':=by
 have h:=JE (EC d s k w g m b);rw[xF] at h;generalize bH k s.data.toList=D at *;obtain⟨a,n,c,rfl⟩:=aA g;clear g b;go_enter func32,ntmps32;go_wp2_with fail;refine h.out.mono ?_;rintro _ o ⟨⟨v,rfl,f,l⟩,i⟩;have j:=JE (JN f i);obtain⟨r,p,q,rfl⟩:=aA f;clear f i h;go_wp2_with fail;go_ret;exact⟨⟨_,rfl,j.out.1,l⟩,j.out.2⟩
theorem ta (aa:Value)(t:List Nod)(w:World)(i:NL w aa t)(l:t.length<=100000):
  Calls prog 89 #[aa] w λe w'=>e=.returned (.int .i64 ((jb t:Nat):Int))/\w=w':=by
 obtain⟨a,c,rfl,q,p⟩:=i.shape;obtain⟨o,n⟩:=rZ (t:=t) l;have m:IntKind.i64.wrap ((lvs t:Nat):Int)=((lvs t:Nat):Int):=JI _ (by have:=iY (t:=t) l;omega);have f:=JE (xH ((lvs t:Nat):Int) w);by_cases b:cH ((lvs t:Nat):Int)=true
 ·rw[show gF ((lvs t:Nat):Int)=2*((lvs t:Nat):Int) - 1 from if_pos b,show gD ((lvs t:Nat):Int)=0 from if_pos b] at f
  by_cases j:2*lvs t=t.length+1
  ·rw[show jb t=lvs t from if_pos ⟨b,j⟩]
   have k:¬(2*((lvs t:Nat):Int) - 1≠(t.length:Int)):=by omega
   have g:(2*((lvs t:Nat):Int) - 1 != (t.length:Int))=false:=bne_eq_false_iff_eq.2 (by omega);have d:2*((lvs t:Nat):Int) - 1=(t.length:Int):=by omega
   rw[d] at f;clear b j i k g d;generalize ((lvs t:Nat):Int)=L at *;go_enter func89,ntmps89;go_wp2_with fail;refine f.out.mono ?_;rintro _ _ ⟨rfl,rfl⟩;go_wp2_with fail;go_ret;exact⟨rfl,rfl⟩
  ·rw[show jb t=0 from if_neg λh=>j h.2]
   have g:(2*((lvs t:Nat):Int) - 1 != (t.length:Int))=true:=Lt.2 (by omega);have d:¬2*((lvs t:Nat):Int) - 1=(t.length:Int):=by omega
   clear b j i;generalize 2*((lvs t:Nat):Int) - 1=M at *;generalize ((lvs t:Nat):Int)=L at *;go_enter func89,ntmps89;go_wp2_with fail;refine f.out.mono ?_;rintro _ _ ⟨rfl,rfl⟩;go_wp2_with fail;go_ret;exact⟨rfl,rfl⟩
 ·rw[show jb t=0 from if_neg λh=>b h.1]
  rw[show gF ((lvs t:Nat):Int)=0 from if_neg b,show gD ((lvs t:Nat):Int)=1 from if_neg b] at f;clear b i;generalize ((lvs t:Nat):Int)=L at *;go_enter func89,ntmps89;go_wp2_with fail;refine f.out.mono ?_;rintro _ _ ⟨rfl,rfl⟩;go_wp2_with fail;go_ret;exact⟨rfl,rfl⟩
theorem ot (aa:Value)(t:List Nod)(K:Nat)(i:Int)(w:World)(l:NL w aa t)(d:aD t K):
  Calls prog 42 #[aa,.int .i64 i] w λe w'=>e=.returned (.bool (decide (bc t i)))/\w=w':=by
 obtain⟨s,r,o⟩:=d.small;have v:=JE (ta aa t w l (by omega));rw[(nY d.le d.len).1] at v;have g:=d.lv;have f:=bP d.le;obtain⟨a,c,rfl,p1,D⟩:=l.shape;by_cases u:0<=i
 ·obtain⟨k,rfl⟩:=Kc u
  by_cases m:k<2 ^ K
  ·have j:2*k<t.length:=by omega
   obtain⟨b,A,rfl,_,y⟩:=l.at (2*k) j;obtain⟨p,q,h,x⟩:=y (2*k) j;have G:=x.kind;have C:((ats t (2*k)).kind != 0)=decide (bc t (k:Int)):=by
    by_cases n:(ats t (2*k)).kind=0
    ·rw[n,Kb (λh=>by have:=(d.there_iff k).1 h;rw[n] at this;cases this)];rfl
    ·have m:(ats t (2*k)).kind=1:=by
      rcases d.even k with e|e
      ·rw[e] at n;exact absurd rfl n
      ·exact e.1
     rw[Ke ((d.there_iff k).2 m),m];rfl
   have F:IntKind.i64.wrap (2*(k:Int))=((2*k:Nat):Int):=by rw[JI _ (by omega)];omega
   have E:((2*k:Nat):Int)<(t.length:Int):=by omega
   have B:(k:Int)<((2 ^ K:Nat):Int):=by omega
   generalize decide (bc t (k:Int))=J at *;generalize t.length=N at *;generalize ((2 ^ K:Nat):Int)=z at *;generalize (ats t (2*k)).kind=H at *;generalize 2*k=I at *;clear l d y x m u s r o g f j;go_enter func42,ntmps42;go_wp2_with fail;refine v.out.mono ?_;rintro _ _ ⟨rfl,rfl⟩;go_wp2_with fail;go_ret;exact⟨by rw[<-C] <;> rfl,rfl⟩
  ·rw[Kb (show ¬bc t (k:Int) from λh=>by have:=h.2.1;omega)]
   have B:¬(k:Int)<((2 ^ K:Nat):Int):=by omega
   generalize ((2 ^ K:Nat):Int)=z at *;clear l d m s r o g f;go_enter func42,ntmps42;go_wp2_with fail;refine v.out.mono ?_;rintro _ _ ⟨rfl,rfl⟩;go_wp2_with fail;go_ret;exact⟨rfl,rfl⟩
 ·rw[Kb (show ¬bc t i from λh=>u h.1)]
  clear l d s r o g f;generalize ((2 ^ K:Nat):Int)=z at *;go_enter func42,ntmps42;go_wp2_with fail;go_ret;exact⟨rfl,rfl⟩
theorem Gi (w:World)(a:aD t K)(b:i<2 ^ K)(c:Tab w):
  Calls prog 92 #[.int .i64 (2*(i:Int)),.int .i64 ((2 ^ K:Nat):Int)] w λe w'=>(∃ v,e=.returned (.tuple #[v,.int .i64 0])/\ON 3 w' w.heap.size v (aL K 0 i))/\Kp w w':=by
 have:=xR K 0 i w a.le (JW _) (by simpa using b) c;rw[eF] at this;rwa [show((2*i:Nat):Int)=2*(i:Int) by omega] at this
theorem yC (aa:Value)(t:List Nod)(K i:Nat)(w:World)(f:NL w aa t)(b:aD t K)(k:i<2 ^ K)(l:Tab w):
  Calls prog 45 #[aa,.int .i64 (i:Int)] w λe w'=>(∃ v,e=.returned v/\ON 3 w' w.heap.size v (aL K 0 i))/\Kp w w':=by
 obtain⟨q,p,o⟩:=b.small;have g:=bP b.le;have h:=JE (ta aa t w f (by omega));rw[(nY b.le b.len).1] at h;have n:=JE (Gi w b k l);have u:IntKind.i64.wrap (2*(i:Int))=2*(i:Int):=JI _ (by omega);obtain⟨a,c,rfl,_,_⟩:=f.shape;generalize aL K 0 i=z at *;generalize ((2 ^ K:Nat):Int)=A at *;generalize t.length=N at *;clear f b k q p o g l;go_enter func45,ntmps45;go_wp2_with fail;refine h.out.mono ?_;rintro _ _ ⟨rfl,rfl⟩;go_wp2_with fail;refine n.out.mono ?_;rintro _ r ⟨⟨v,rfl,d⟩,j⟩;have m:=JE (JN d j);obtain⟨y,s,x,rfl⟩:=d.rn.sl;clear d j n h;go_wp2_with fail;go_ret;exact⟨⟨_,rfl,m.out.1⟩,m.out.2⟩
theorem yD (aa:Value)(seed:List UInt8)(w:World)(d:Rd w aa seed):
  Calls prog 55 #[aa] w λe w'=>(∃ r,e=.returned r/\Rd w' r (dX seed)/\ba w.heap.size r)/\Kp w w':=by
 have i:=JE (qq aa seed w d);obtain⟨a,n,c,rfl⟩:=aA d;clear d;go_enter func55,ntmps55;go_wp2_with fail;refine i.out.mono ?_;rintro _ j ⟨⟨v,rfl,b,g⟩,h⟩;have f:=JE (JN b (JN g h));obtain⟨m,k,l,rfl⟩:=aA b;clear b h g i;go_wp2_with fail;go_ret;exact⟨⟨_,rfl,f.out.1,f.out.2.1⟩,f.out.2.2⟩
theorem yE (d:Value)(s:ByteArray)(k:List UInt8)(w:World)(g:Rd w d k)(l:s.size<=300)(b:k.length<=2000):
  Calls prog 104 #[d,.string s] w λe w'=>(∃ v,e=.returned v/\Ow 5 w' w.heap.size v (bH k s.data.toList))/\Kp w w':=by
 have h:=JE (Ct d s k w g l b);rw[xF] at h;generalize bH k s.data.toList=D at *;obtain⟨a,n,c,rfl⟩:=aA g;clear g b;go_enter func104,ntmps104;go_wp2_with fail;refine h.out.mono ?_;rintro _ m ⟨⟨v,rfl,f⟩,i⟩;have j:=JE (JN f i);obtain⟨q,o,p,rfl⟩:=aA f.rd;clear f i h;go_wp2_with fail;go_ret;exact⟨⟨_,rfl,j.out.1⟩,j.out.2⟩
def mc (own:List Sd):Prop:=∀ k,0<k->k<own.length->(aG own (k - 1)).node<(aG own k).node
theorem yF {own:List Sd}:mc own↔srt own:=by
 constructor
 ·intro h
  have c:∀ d a,a+d+1<own.length->(aG own a).node<(aG own (a+d+1)).node:=λd=>by
   induction d with
   | zero=>exact λa e=>by have:=h (a+0+1) (by omega) e;rwa [show a+0+1 - 1=a by omega] at this
   | succ d ih=>
    intro a e;have l:=ih a (by omega);have g:=h (a+(d+1)+1) (by omega) e;rw[show a+(d+1)+1 - 1=a+d+1 by omega] at g;exact Int.lt_trans l g
  refine Lc.2 λa b e i j=>?_
  have:=c (b - a - 1) a (by omega);rwa [show a+(b - a - 1)+1=b by omega,eV e,eV i] at this
 ·intro h k m f
  rw[eV f,eV (show k - 1<own.length by omega)];exact Lc.1 h (k - 1) k (by omega) f (by omega)
theorem yG (aa:Value)(own:List Sd)(w:World)(u:SL w aa own):Calls prog 43 #[aa] w λe w'=>aK e (mc own)/\Kp w w':=by
 obtain⟨a,c,rfl,p1,F⟩:=Ob u;unfold maxLen at F;have D:=JE u;have d:Hid (∀ k,0<k->k<own.length->¬(aG own (k - 1)).node<(aG own k).node->¬mc own):=λk o H h e=>h (e k o H)
 have b:Hid ((∀ k,0<k->k<own.length->(aG own (k - 1)).node<(aG own k).node)->mc own):=λh=>h
 generalize mc own=P at *;obtain⟨N,z⟩:∃ N,own.length=N:=⟨_,rfl⟩;have E:=JE z;rw[z] at p1 D d b ⊢;clear u z;go_enter func43,ntmps43;go_wp2_with fail;go_loopw[3] (λi wr=>∃ m:Nat,i=.int .i64 ((m:Int)+1)/\(∀ j,0<j->j<m+1->j<N->(aG own (j - 1)).node<(aG own j).node)/\Kp w wr) (λi _=>(N+1 - (intOf i).toNat))
 case atStart=>exact⟨0,rfl,λj o W=>by omega,NQ _⟩
 case round=>
  obtain⟨m,rfl,f,q⟩:=hrel;have g:=JE f;have r:=JE q;clear f q;by_cases p:m+1<N
  ·obtain⟨g1,Q,K,M,C,_,c1,_,_⟩:=SL.node (i:=m+1) (Od D.out r.out) (by rw[E.out];exact p)
   obtain⟨Z,O,J,L,B,_,d1,_,_⟩:=SL.node (i:=m) (Od D.out r.out) (by rw[E.out];omega);rw[E.out] at C B;simp only[JR] at C;obtain⟨rfl,_,rfl⟩:=C;simp only[JR,Ky,Lv,and_true] at B;obtain⟨⟨rfl,rfl⟩,y⟩:=B;clear y;have V:IntKind.i64.wrap ((m:Int)+1+1)=(m:Int)+1+1:=JI _ (by omega);have U:IntKind.i64.wrap ((m:Int)+1 - 1)=(m:Int):=by rw[JI _ (by omega)];omega
   have G:(m:Int)+1<(N:Int):=by omega
   have T:(m:Int)<(N:Int):=by omega
   have S:(0:Int)<=(m:Int)+1:=by omega
   have R:((m:Int)+1).toNat=m+1:=by omega
   have n:Hid (¬(aG own m).node<(aG own (m+1)).node->¬P):=λh=>d.out (m+1) (by omega) p (by simpa using h)
   have l:Hid ((aG own m).node<(aG own (m+1)).node->∀ j,0<j->j<m+1+1->j<N->(aG own (j - 1)).node<(aG own j).node):=λh j o x v=>by
    rcases Kh (Kr.1 x) with A|A
    ·exact g.out j o A v
    ·rw[A];simpa using h
   clear d b g;generalize (aG own (m+1)).node=X at *;generalize (aG own m).node=Y at *;by_cases t:Y<X
   ·have s:=JE (l.out t)
    have I:¬X<=Y:=by omega
    clear l n;go_wp2_with fail;go_region
    go_wp2_with fail;go_roundw
    case rel=>exact⟨m+1,by go_num,s.out,r.out.drew⟩
    case measure=>simp[intOf];omega
   ·have s:=JE (n.out (by omega))
    have I:X<=Y:=by omega
    clear l n;go_wp2_with fail;go_region
    go_wp2_with fail;go_ret;exact⟨Oi s.out,r.out.drew⟩
  ·have s:=JE (b.out λj o x=>g.out j o (by omega) x)
   have G:¬(m:Int)+1<(N:Int):=by omega
   clear d b;go_wp2_with fail;go_ret;exact⟨aK.yes s.out,r.out⟩
def mg (seed info half b:List UInt8):List UInt8 × Int:=
 if half.length≠32 then ([],5) else if unE seed half info b≠0 then ([],unE seed half info b) else if (unR seed half info b).length≠32 then ([],2) else (unR seed half info b,0)
theorem Gk (aa v x y:Value)(seed info half b:List UInt8)(w:World)(E:Rd w aa seed)(D:Rd w v info)(C:Rd w x half)(B:Rd w y b)(F:info.length<=1400)(G:b.length<=1600):
  Calls prog 120 #[aa,v,.agg #[x,y]] w λe w'=>(∃ r,e=.returned (.tuple #[r,.int .i64 (mg seed info half b).2])/\Rd w' r (mg seed info half b).1)/\Kp w w':=by
 have k:=JE (λW (o:Kp w W)=>Gh aa x v y seed half info b W (E.kp o) (C.kp o) (D.kp o) (B.kp o) F G);have z:Hid (mg seed info half b=if half.length≠32 then ([],5) else if unE seed half info b≠0 then ([],unE seed half info b) else if (unR seed half info b).length≠32 then ([],2) else (unR seed half info b,0)):=rfl;generalize mg seed info half b=a at *;generalize unE seed half info b=p at *;generalize unR seed half info b=g at *;obtain⟨au,U,Z,rfl⟩:=aA E;obtain⟨av,T,Y,rfl⟩:=aA D;obtain⟨Q,N,rfl,_,_⟩:=C.shape;obtain⟨P,L,M,rfl⟩:=aA B;clear E D C B;by_cases i:half.length=32
 ·have f:Hid (a=if p≠0 then ([],p) else if g.length≠32 then ([],2) else (g,0)):=by have:=z.out;rwa [if_neg (by simpa using i)] at this
  rw[i] at k ⊢;clear z i;go_enter func120,ntmps120;go_wp2_with fail;obtain⟨u,l⟩:∃ u,w.alloc (.cells #[.slice Q 32 N,.slice P L M] 92)=u:=⟨_,rfl⟩;have K:Hid (Kp w u):=by unfold Hid;rw[<-l];exact(NQ _).alloc _
  rw[l];clear l;refine(k.out u K.out).mono ?_;rintro _ w2 ⟨⟨q,rfl,A⟩,I⟩;obtain⟨R,O,rfl,X,V⟩:=A.shape;have S:=JE A;have H:=JE (K.out.trans I);clear A I k;by_cases m:p=0
  ·subst m
   have j:Hid (a=if g.length≠32 then ([],2) else (g,0)):=by have:=f.out;rwa [if_neg (by simp)] at this
   clear f;by_cases h:g.length=32
   ·have d:Hid (a=(g,0)):=by have:=j.out;rwa [if_neg (by simpa using h)] at this
    have s:(g.length:Int)=32:=by omega
    have c:Hid ((∃ r,Ending.returned (.tuple #[Value.slice R g.length O,.int .i64 0])=.returned (.tuple #[r,.int .i64 a.2])/\Rd w2 r a.1)/\Kp w w2):=by rw[d.out];exact⟨⟨_,rfl,S.out⟩,H.out⟩
    have n:((g.length:Int)==32)=true:=by rw[s];rfl
    have J:((g.length:Int) != 32)=false:=by rw[s];rfl
    clear j d h;go_wp2_with fail;go_ret2;exact c.out
   ·have d:Hid (a=([],2)):=by have:=j.out;rwa [if_pos h] at this
    have c:Hid ((∃ r,Ending.returned (.tuple #[Value.slice none 0 0,.int .i64 2])=.returned (.tuple #[r,.int .i64 a.2])/\Rd w2 r a.1)/\Kp w w2):=by rw[d.out];exact⟨⟨_,rfl,bU _⟩,H.out⟩
    have n:((g.length:Int)==32)=false:=JL.2 (by omega);have t:¬(g.length:Int)=32:=by omega
    clear j d;go_wp2_with fail;go_ret2;exact c.out
  ·have d:Hid (a=([],p)):=by have:=f.out;rwa [if_pos m] at this
   have c:Hid ((∃ r,Ending.returned (.tuple #[Value.slice none 0 0,.int .i64 p])=.returned (.tuple #[r,.int .i64 a.2])/\Rd w2 r a.1)/\Kp w w2):=by rw[d.out];exact⟨⟨_,rfl,bU _⟩,H.out⟩
   have n:(p==0)=false:=JL.2 m;clear f d;go_wp2_with fail;go_ret2;exact c.out
 ·have f:Hid (a=([],5)):=by have:=z.out;rwa [if_pos i] at this
  have n:((half.length:Int)==32)=false:=JL.2 (by omega);have t:¬(half.length:Int)=32:=by omega
  have c:Hid (∀ W,Kp w W->(∃ r,Ending.returned (.tuple #[Value.slice none 0 0,.int .i64 5])=.returned (.tuple #[r,.int .i64 a.2])/\Rd W r a.1)/\Kp w W):=λW o=>by rw[f.out];exact⟨⟨_,rfl,bU _⟩,o⟩
  clear z k f;go_enter func120,ntmps120;go_wp2_with fail;go_ret2;exact c.out _ ((NQ _).alloc _)
def qt (l:List Int)(x:Int)(r:Int):Prop:=(∃ k:Nat,r=(k:Int)/\k<l.length/\l.getD k 0=x)\/(r = -1/\x∉l)
theorem Gl (aa:Value)(l:List Int)(x:Int)(w:World)(u:RI w aa l):
  Calls prog 132 #[aa,.int .i64 x] w λe w'=>(∃ r,e=.returned (.int .i64 r)/\qt l x r)/\w=w':=by
 obtain⟨a,c,rfl,p1,E⟩:=u.shape;unfold maxLen at E;have D:=JE u;have q:Hid (∀ k:Nat,k<l.length->l.getD k 0=x->qt l x (k:Int)):=λk o e=>.inl ⟨k,rfl,o,e⟩
 have s:Hid ((∀ k,k<l.length->l.getD k 0≠x)->qt l x (-1)):=λh=>.inr ⟨rfl,λI=>by
  obtain⟨k,o,e⟩:=Ld I;exact h k o (by rw[JF,JG o];exact e)⟩
 generalize qt l x=L at *;obtain⟨N,B⟩:∃ N,l.length=N:=⟨_,rfl⟩;rw[B] at D q s p1 ⊢;clear u B;go_enter func132,ntmps132;go_wp2_with fail;go_loop [8] (λi=>∃ k:Nat,k<=N/\i=.int .i64 (k:Int)/\(∀ j,j<k->l.getD j 0≠x)) (λi=>(N - (intOf i).toNat))
 case atStart=>exact⟨0,JW _,rfl,λt h=>by omega⟩
 case round=>
  obtain⟨k,o,rfl,d⟩:=hrel;by_cases f:k<N
  ·obtain⟨b,F,rfl,_,v⟩:=D.out.at k f
   have C:=v k f;have m:=JE (q.out k f);have n:=JE d;have H:IntKind.i64.wrap ((k:Int)+1)=(k:Int)+1:=JI _ (by omega);have G:(k:Int)<(N:Int):=by omega
   by_cases g:l.getD k 0=x
   ·have z:=JE (m.out g)
    have p:(x==l.getD k 0)=true:=by rw[g];exact beq_self_eq_true _
    rw[g] at C;clear v m n q s d g p;go_wp2_with fail;go_ret;exact⟨⟨_,rfl,z.out⟩,rfl⟩
   ·have K:Hid (∀ j,j<k+1->l.getD j 0≠x):=λj J=>by
     rcases Kh (Kr.1 J) with y|y
     ·exact n.out j y
     ·rw[y];exact g
    obtain⟨X,A⟩:∃ X,l.getD k 0=X:=⟨_,rfl⟩;rw[A] at C g;have p:(x==X)=false:=JL.2 λe=>g e.symm
    clear v m n q s d A;go_wp2_with fail;go_round
    case rel=>exact⟨k+1,by omega,by first|rfl|(rw[H];rfl),K.out⟩
    case measure=>simp[intOf];omega
  ·obtain rfl:k=N:=by omega
   have z:=JE (s.out d);have G:¬(k:Int)<(k:Int):=by omega
   clear s d q;go_wp2_with fail;go_ret;exact⟨⟨_,rfl,z.out⟩,rfl⟩
theorem Gm (aa:Value)(l:List Int)(x:Int)(w:World)(b:RI w aa l):
  Calls prog 94 #[aa,.int .i64 x] w λe w'=>e=.returned (.bool (decide (x∈l)))/\w=w':=by
 have f:=JE (Gl aa l x w b);obtain⟨a,n,c,rfl⟩:=b.sl;clear b;go_enter func94,ntmps94;go_wp2_with fail;refine f.out.mono ?_;rintro _ _ ⟨⟨r,rfl,d⟩,rfl⟩;have g:Hid (decide (0<=r)=decide (x∈l)):=by
  rcases d with⟨k,rfl,hk,e⟩|⟨rfl,hn⟩
  ·have:x∈l:=by
    rw[JF,JG hk] at e;exact(show l[k]=x from e)▸Ko hk
   exact(Ke (show 0<=(k:Int) by omega)).trans (Ke this).symm
  ·exact(show decide (0<=(-1:Int))=false from rfl).trans (Kb hn).symm
 clear d f;go_wp2_with fail;go_ret;exact⟨by rw[<-g.out] <;> first|rfl|simp,rfl⟩
theorem Gn (aa:Value)(seed:List UInt8)(n:Nod)(p q h:Value)(w:World)(m:Rd w aa seed)(d:NIn w n p q h):
  Calls prog 46 #[aa,.agg #[.int .i64 n.kind,.int .i64 n.name,p,q,h]] w λe w'=>aK e (fO seed=0/\dX seed=n.pub)/\Kp w w':=by
 have L:=JE (λW (o:Kp w W)=>qq aa seed W (m.kp o));have b:=JE (λW (o:Kp w W) (v:Value) (l:List UInt8) (O:Rd W v l)=>mf v p l n.pub W O (d.pub.kp o));generalize fO seed=t at *;generalize dX seed=R at *;obtain⟨au,X,Z,rfl⟩:=aA m;obtain⟨H,z,E,rfl⟩:=aA d.pub;obtain⟨G,y,D,rfl⟩:=d.un.sl;obtain⟨F,x,C,rfl⟩:=aA d.hash;obtain⟨J,g⟩:∃ k,n.kind=k:=⟨_,rfl⟩;obtain⟨I,f⟩:∃ k,n.name=k:=⟨_,rfl⟩;rw[g,f];generalize n.pub=S at *;clear m d g f;go_enter func46,ntmps46;go_wp2_with fail;obtain⟨c,a⟩:∃ c,w.alloc (.cells #[.int .i64 J,.int .i64 I,.slice H z E,.slice G y D,.slice F x C] 81)=c:=⟨_,rfl⟩;have M:Hid (Bx c w.heap.size 81 #[.int .i64 J,.int .i64 I,.slice H z E,.slice G y D,.slice F x C]):=by unfold Hid;rw[<-a];exact Oa w _ _
 have K:Hid (Kp w c):=by unfold Hid;rw[<-a];exact(NQ _).alloc _
 rw[a];clear a;refine(L.out c K.out).mono ?_;rintro _ w2 ⟨⟨r,rfl,i,N⟩,j⟩;obtain⟨a9,Y,c9,rfl⟩:=aA i;have Q:=JE i;have u:=JE (K.out.trans j);have B:=(M.out.kp j).cell 2;simp only[JT,JS,JU] at B;clear i N j L M;by_cases s:t=0
 ·subst s
  go_wp2_with fail;refine(b.out w2 u.out _ _ Q.out).mono ?_;rintro _ V ⟨rfl,A⟩;have T:=JE (u.out.trans A);clear A B b;go_wp2_with fail;go_ret;exact⟨⟨_,rfl,by simp⟩,T.out⟩
 ·have P:(t==0)=false:=JL.2 s
  have U:Hid (¬(t=0/\R=S)):=λh=>s h.1
  clear b;go_wp2_with fail;go_ret;exact⟨Oi U.out,u.out⟩
theorem Gp (n:Nod)(x:Int)(p q h:Value)(w:World)(c:NIn w n p q h):
  Calls prog 47 #[.agg #[.int .i64 n.kind,.int .i64 n.name,p,q,h],.int .i64 x] w λe w'=>aK e (n.kind≠0/\x∉n.un)/\Kp w w':=by
 have C:=JE (λW (E:Kp w W)=>Gm q n.un x W (c.un.kp E));obtain⟨u,j,r,rfl⟩:=aA c.pub;obtain⟨t,i,o,rfl⟩:=c.un.sl;obtain⟨s,g,m,rfl⟩:=aA c.hash;obtain⟨v,d⟩:∃ k,n.name=k:=⟨_,rfl⟩;obtain⟨b,l⟩:∃ b,decide (x∈n.un)=b:=⟨_,rfl⟩;have F:Hid (b=true↔x∈n.un):=by unfold Hid;rw[<-l,decide_eq_true_iff]
 rw[l] at C;rw[d];generalize n.kind=a at *;generalize n.un=A at *;clear c d l;go_enter func47,ntmps47;have G:Hid (Bx (w.alloc (.cells #[.int .i64 a,.int .i64 v,.slice u j r,.slice t i o,.slice s g m] 81)) w.heap.size 81 #[.int .i64 a,.int .i64 v,.slice u j r,.slice t i o,.slice s g m]):=Oa w _ _;by_cases f:a=0
 ·subst f
  have y:Hid (¬((0:Int)≠0/\x∉A)):=λh=>h.1 rfl
  go_wp2_with fail;go_ret;exact⟨Oi y.out,(NQ _).alloc _⟩
 ·have D:(a==0)=false:=JL.2 f
  have z:(a != 0)=true:=Lt.2 f;have B:Hid (Kp w (w.alloc (.cells #[.int .i64 a,.int .i64 v,.slice u j r,.slice t i o,.slice s g m] 81))):=(NQ _).alloc _;go_wp2_with fail;refine(C.out _ B.out).mono ?_;rintro _ _ ⟨rfl,rfl⟩;have y:Hid ((!b)=true↔a≠0/\x∉A):=by
   unfold Hid;rw[<-not_congr F.out];cases b <;> simp[f]
  go_wp2_with fail;go_ret;exact⟨⟨_,rfl,y.out⟩,B.out⟩
def Sly (w:World)(g:Nat):Prop:=∃ (T:TypeId) (cs:Array Value),Bx w g T cs/\∀ (j:Nat) (z:Value),cs[j]?=some z->∃ a n c,z=Value.slice a n c
theorem qy {s r q o:Option Addr}{e l:Nat}(h:Bx w g T #[.slice s f n,.slice r e m,.slice q d l,.slice p c k,.slice o b i]):Sly w g:=
 ⟨T,_,h,λj z a=>by
  match j with
  | 0=>cases a;exact⟨_,_,_,rfl⟩
  | 1=>cases a;exact⟨_,_,_,rfl⟩
  | 2=>cases a;exact⟨_,_,_,rfl⟩
  | 3=>cases a;exact⟨_,_,_,rfl⟩
  | 4=>cases a;exact⟨_,_,_,rfl⟩
  | j+5=>simp at a⟩
theorem Sly.no (h:Sly w g){x:Addr}{k:IntKind}{n:Int}(i:x.block=g)(b:w.cell? x=some (.int k n)):False:=by
 obtain⟨T,cs,j,f⟩:=h;subst i;unfold World.cell? at b;have d:w.heap[x.block]?=some (.cells cs T (0,0)):=j;rw[d] at b;dsimp only at b
 split at b
 ·cases b
 ·obtain⟨a,n,c,e⟩:=f _ _ b
  cases e
theorem Rd.sly (h:Rd w v l)(b:Sly w g):br (λk=>k=g) v:=λx n c e i d=>by
 obtain⟨q,p,a,o,m,j,f⟩:=h;rw[e] at a;simp only[JR] at a;obtain⟨rfl,rfl,rfl⟩:=a;exact b.no (by rw[fx];exact d) (f x rfl 0 i)
theorem RI.sly {l:List Int}(h:RI w v l)(d:Sly w g):br (λk=>k=g) v:=λx n c e j f=>by
 obtain⟨r,q,a,p,o,m,i⟩:=h;rw[e] at a;simp only[JR] at a;obtain⟨rfl,rfl,rfl⟩:=a;have b:=i x rfl 0 j;rw[List.getElem_map] at b;exact d.no (by rw[fx];exact f) b
theorem NL.sly (h:NL w v t)(m:Sly w g)(f:az (λk=>k=g) w w'):NL w' v t:=by
 obtain⟨a,c,e,F,E,D,C⟩:=h;refine⟨a,c,e,F,E,D,λy=>?_⟩;obtain⟨b,l,B,A,s⟩:=C y;obtain⟨H,u0,G,o⟩:=s 0 y;have n:b≠g:=λe=>m.no (x:=⟨b,l+0*5,none⟩) e o.kind
 refine⟨b,l,B,JV A f.size,λi r=>?_⟩;obtain⟨p,u,q,d⟩:=s i r;exact⟨p,u,q,λj v z=>f.cell (d.1 j v z) n,d.2.pub.stepF f (d.2.pub.sly m),d.2.un.stepF f (d.2.un.sly m),d.2.hash.stepF f (d.2.hash.sly m)⟩
theorem tc {s r p o n:Value}(m:Bx w g T #[s,r,p,o,n])(f d c b a:Value):
  Bx (((((w.setCell ⟨g,0,none⟩ f).setCell ⟨g,1,none⟩ d).setCell ⟨g,2,none⟩ c).setCell ⟨g,3,none⟩ b).setCell ⟨g,4,none⟩ a) g T #[f,d,c,b,a]
  /\ az (λk=>k=g) w (((((w.setCell ⟨g,0,none⟩ f).setCell ⟨g,1,none⟩ d).setCell ⟨g,2,none⟩ c).setCell ⟨g,3,none⟩ b).setCell ⟨g,4,none⟩ a)
  /\ ∀ w0,Kp w0 w->w0.heap.size<=g->Kp w0 (((((w.setCell ⟨g,0,none⟩ f).setCell ⟨g,1,none⟩ d).setCell ⟨g,2,none⟩ c).setCell ⟨g,3,none⟩ b).setCell ⟨g,4,none⟩ a):=by
 have h:=gI w g 0 [f,d,c,b,a] 0;exact⟨m.fill #[f,d,c,b,a] rfl,⟨h.os,h.tape,h.output,h.size,λq i j=>h.block q i λe=>j (by cases e;rfl)⟩,λw0 k l=>k.setCells l [f,d,c,b,a] 0⟩
def fJ (own:Sd->Prop)(s:List UInt8)(xs:List Nat)(n:Nat):Sd->Prop:=λy=>own y\/∃ a,a<n/\y=⟨((xs.getD a 0:Nat):Int),bo s a⟩
theorem yU {own:Sd->Prop}(y:Sd):fJ own s xs 0 y↔own y:=by
 unfold fJ;constructor
 ·rintro (h|⟨a,h,_⟩)
  ·exact h
  ·omega
 ·exact .inl
theorem yV {own:Sd->Prop}(f:xs.Nodup)(g:∀ a,own a->∀ x∈xs,a.node≠(x:Int))(h:n<xs.length)(y:Sd):
  fJ own s xs (n+1) y↔(y=⟨((xs.getD n 0:Nat):Int),bo s n⟩\/(fJ own s xs n y/\y.node≠((xs.getD n 0:Nat):Int))):=by
 have c:∀ a,(d:a<xs.length)->xs.getD a 0=xs[a]:=λa d=>by rw[JF,JG d];rfl
 unfold fJ;constructor
 ·rintro (b|⟨a,b,rfl⟩)
  ·refine .inr ⟨.inl b,?_⟩
   rw[c n h];exact g y b _ (Ko h)
  ·by_cases e:a=n
   ·subst e;exact .inl rfl
   ·refine .inr ⟨.inr ⟨a,by omega,rfl⟩,?_⟩
    rw[c n h,c a (by omega)];intro k;have j:xs[a]'(by omega)=xs[n]:=by dsimp only at k;omega
    exact e ((List.getElem_inj f).1 j)
 ·rintro (b|⟨b|⟨a,b,i⟩,_⟩)
  ·exact .inr ⟨n,by omega,b⟩
  ·exact .inl b
  ·exact .inr ⟨a,by omega,i⟩
theorem yW {own:List Sd}(c:xs.Nodup)(h:srt own)(e:∀ a∈own,∀ x∈xs,a.node≠(x:Int)){r:List Sd}(b:srt r)
 (d:∀ y,y∈r↔fJ (λy=>y∈own) s xs xs.length y):r=cX own s xs:=DQ c h e b d
open Classical in
noncomputable def iD (own:List Sd) (xs:List Nat):List Sd:=own.filter λs=>decide (¬∃ x∈xs,(x:Int)=s.node)
theorem GU (own:List Sd):iD own []=own:=by
 unfold iD;rw[List.filter_eq_self];intro a _;simp
theorem oz {own:List Sd}{y:Sd}:y∈iD own xs↔y∈own/\∀ x∈xs,(x:Int)≠y.node:=by
 unfold iD;rw[Nn];simp
theorem GV {own:List Sd}(h:n<xs.length)(y:Sd):y∈iD own (xs.take (n+1))↔(y∈iD own (xs.take n)/\y.node≠((xs.getD n 0:Nat):Int)):=by
 rw[oz,oz,JZ h,JF,JG h];constructor
 ·rintro⟨c,b⟩
  exact⟨⟨c,λx a=>b x (Le.2 (.inl a))⟩,λe=>b _ (Le.2 (.inr (Lz.2 rfl))) e.symm⟩
 ·rintro⟨⟨c,b⟩,d⟩
  refine⟨c,λx a=>?_⟩;rcases Le.1 a with a|a
  ·exact b x a
  ·rw[Lz] at a
   subst a;exact λe=>d e.symm
theorem GW {own:List Sd}(h:srt own)(xs:List Nat):srt (iD own xs):=List.Pairwise.sublist List.filter_sublist h
theorem oC {own:List Sd}:iD own (aL K 0 i)=cL K i own:=rfl
def fS (l:List Nat)(t:List Nod):List Nod:=l.foldl (λo x=>o.set x aX) t
theorem th:∀ (l:List Nat) (t:List Nod),(fS l t).length=t.length
 | [],_=>rfl
 | x :: l,t=>(th l (t.set x aX)).trans (Km ..)
theorem GX {l:List Nat}(h:j<l.length)(t:List Nod):fS (l.take (j+1)) t=(fS (l.take j) t).set (l.getD j 0) aX:=by
 unfold fS;rw[JZ h,List.foldl_append,JF,JG h];rfl
theorem yX:∀ (l:List Nat) (t:List Nod) (y:Nat),(∀ x∈l,x<t.length)->ats (fS l t) y=if y∈l then aX else ats t y
 | [],_,_,_=>rfl
 | x :: l,t,y,h=>by
  show ats (fS l (t.set x aX)) y=_
  rw[yX l _ y (λz hz=>by rw[Km];exact h z (by simp[hz])),fm _ _ _ _ (h x (by simp))]
  by_cases e1:y∈l
  ·rw[if_pos e1,if_pos (by simp[e1])]
  ·rw[if_neg e1]
   by_cases e2:y=x
   ·rw[if_pos e2,if_pos (by simp[e2])]
   ·rw[if_neg e2,if_neg (by simp[e1,e2])]
theorem GY (a:aD t K)(c:i<2 ^ K)(pub:List UInt8):fS (aL K 0 i) (t.set (2*i) (aN (ats t (2*i)).name pub))=bk t i pub:=by
 have f:=a.len2;have b:2*i<t.length:=by omega
 refine uf (by rw[th,Km,aD.updLen]) λy=>?_
 rw[yX _ _ _ (λx d=>by rw[Km,a.len];exact eP c d),fm _ _ _ _ b,a.updAt c];by_cases e:y=2*i
 ·subst e
  rw[if_neg (λh=>by have:=ik h;omega),if_pos rfl,if_pos rfl]
 ·rw[if_neg e,if_neg e]
theorem Ha {p:List St}(c:aD t K)(g:(ats t (2*i)).kind=1){pub:List UInt8}(k:pub.length=32)(j:∀ a,a<(aC t i K).length->(am p a).pub.length=32):
  aD (bL p 0 (aC t i K) (bk t i pub)) K:=by
 have l:=Oe (t:=t) (x:=2*i) (by rw[g];decide);have m:=c.len2;have n:i<2 ^ K:=by omega
 have o:=aD.updLen (t:=t) i pub;have f:∀ x∈aC t i K,x<(bk t i pub).length:=λx h=>by rw[o,c.len];exact eP n (fP h)
 refine(c.upd g k).over (nR _ _ _ _) λy=>?_
 by_cases b:y∈aC t i K
 ·obtain⟨a,d,rfl⟩:=Ld b
  have e:=sm p (aC t i K) 0 (bk t i pub) (lT t i K) f a d;rw[Lf,JF,JG d] at e;exact .inr ⟨ik (fP b),.inr ⟨_,j a d,e⟩⟩
 ·exact .inl (pN _ _ _ _ _ f b)
theorem zc (u:Value)(t:List Nod)(w:World)(hu:NL w u t)(h0:0<t.length)(hl:t.length<=100000)(hb:∀ i,i<t.length->(ats t i).pub.length<=1000/\(ats t i).un.length<=100000/\(ats t i).hash.length<=1000):
  Calls prog 141 #[u] w λe w'=>(∃ v P U H,e=.returned v/\NX 81 3 w' w.heap.size v t P U H (λ_=>True))/\Kp w w':=by
 have HC:=JE (yI u t w hu h0 (by omega));have am:=JE (fun(v:Value) (l:List UInt8) (W:World) (h:Rd W v l) (hl:l.length<=1000)=>rL v l W h (by omega));have au:=JE (fun(v:Value) (l:List Int) (W:World) (h:RI W v l) (hl:l.length<=100000)=>Gj v l W h (by omega));have HU:=JE hu;obtain⟨a,c,rfl,p1,s1⟩:=hu.shape;have HB:=JE hb;have aq:=JE (λi s=>Eu t i s);obtain⟨N,hN⟩:∃ N,t.length=N:=⟨_,rfl⟩;have B:=JE hN;rw[hN] at HC HU HB h0 hl p1 ⊢;have aw:(N:Int)<=100000:=by omega
 have az:=JE (JN p1 s1);clear hu hb hN hl p1 s1;go_enter func141,ntmps141;go_wp2_with fail;refine HC.out.mono ?_;rintro _ w1 ⟨⟨v1,us,rfl,r1,r2,r3⟩,k1⟩;obtain⟨P,U,H,r4⟩:=Et (R:=λi p u h=>(∀ f,f<5->us[i*5+f]?=(cj (ats t i) p u h)[f]?)/\NIn w (ats t i) p u h) r3;obtain⟨g,S,rfl,D,ae⟩:∃ g S,v1=.slice (some ⟨g,0,none⟩) N S/\w.heap.size<=g/\g<w1.heap.size/\N<=S:=by
  rcases id r1.2 with⟨_,e⟩|⟨g,cap,cur,e,e1,e2,e3,_⟩
  ·omega
  ·exact⟨g,cap,e,e1,(JK.1 e2).1,e3⟩
 have Q:Hid (∃ P U H,NX 81 3 w1 w.heap.size (.slice (some ⟨g,0,none⟩) N S) t P U H (λj=>j<0)):=by
  refine⟨P,U,H,⟨us,by rw[B.out];exact r1,r2,λi s=>?_⟩,λi s=>?_,λi s=>?_,λi s hs=>absurd hs (LT _),λi s hs=>absurd hs (LT _),λi j s hj hs=>absurd hs (LT _)⟩
  ·rw[B.out] at s;exact(r4 i s).1
  ·rw[B.out] at s;exact(r4 i s).2.kp k1
  ·rw[B.out] at s
   have h4:=(r4 i s).2;exact⟨h4.pub.apart (λg' E=>by cases E;exact D),h4.un.apart (λg' E=>by cases E;exact D),h4.hash.apart (λg' E=>by cases E;exact D)⟩
 have ar:=JE k1;have HG:=JE (JN D ae.1);have ay:=ae.2;clear r1 r2 r3 r4 k1 HC D ae P U H us;go_wp2_with fail;go_loopw[10] (λx wr=>∃ k:Nat,k<=N/\x=.int .i64 (k:Int)/\(∃ P U H,NX 81 3 wr w.heap.size (.slice (some ⟨g,0,none⟩) N S) t P U H (λj=>j<k))/\Kp w wr/\g<wr.heap.size) (λx _=>(N - (intOf x).toNat))
 case atStart=>exact⟨0,JW _,rfl,Q.out,ar.out,HG.out.2⟩
 case round=>
  obtain⟨k,hk,rfl,⟨P,U,H,hx⟩,C,ad⟩:=hrel;by_cases m:k<N
  ·obtain⟨b,av,rfl,_,ah⟩:=HU.out.at k m
   obtain⟨p,q,h,hn⟩:=ah k m;have d:=hn.kp C;have d0:=d.kind;have d1:=d.name;have d2:=d.pubC;have d3:=d.unC;have d4:=d.hashC;obtain⟨b1,b2,b3⟩:=HB.out k m;have af:=JE hn.2;have ag:=JE (JN b1 (JN b2 b3));obtain⟨xp,np,M,rfl⟩:=aA d.2.pub;obtain⟨xq,nq,L,rfl⟩:=d.2.un.sl;obtain⟨xh,nh,O,rfl⟩:=aA d.2.hash;have HX:=JE hx;have n:=JE (JN C ad);have i1:IntKind.i64.wrap ((k:Int)+1)=(k:Int)+1:=JI _ (by omega);have i2:(k:Int)<(N:Int):=by omega
   clear ah hn d hx C ad b1 b2 b3;go_wp2_with fail;refine(am.out (.slice xp np M) _ _ (af.out.pub.kp (n.out.1.alloc _)) ag.out.1).mono ?_;rintro _ w3 ⟨p',rfl,o3,k3⟩;have J:Hid (∃ P U H,NX 81 3 (w3.setCells g (k*5+2) [p']) w.heap.size (.slice (some ⟨g,0,none⟩) N S) t P U H (λj=>j<k)):=⟨_,_,_,
    HX.out.clonePub (((NQ wr).alloc _).trans k3) (by rw[B.out];exact m) (Nat.lt_irrefl k) o3 (by simp) n.out.2⟩
   have V:Hid (w3.there g (k*5+2) 1):=(HX.out.kp (((NQ wr).alloc _).trans k3)).there k (by rw[B.out];exact m) 2 (by omega);have y:=(Oa wr 81 #[.int .i64 (ats t k).kind,.int .i64 (ats t k).name,.slice xp np M,.slice xq nq L,.slice xh nh O]).kp k3;have r:Hid (Bx (w3.setCells g (k*5+2) [p']) wr.heap.size 81 #[.int .i64 (ats t k).kind,.int .i64 (ats t k).name,.slice xp np M,.slice xq nq L,.slice xh nh O]):=y.grown (gI w3 g 0 _ _) (λe=>by have:=n.out.2;simp at e;omega);have o:Hid (Kp w (w3.setCells g (k*5+2) [p'])):=(n.out.1.trans (((NQ wr).alloc _).trans k3)).setCells HG.out.1 _ _;have G:Hid (wr.heap.size<(w3.setCells g (k*5+2) [p']).heap.size):=JV (JK.1 y).1 (gI w3 g 0 _ _).size;obtain⟨yp,mp,ao,rfl⟩:=aA o3.rd;clear o3 k3 y;go_wp2_with(refine nX rfl rfl 24 (.tmp 21) (.tmp 19) rfl g (k*5+2) (.slice yp mp ao) rfl rfl rfl V.out xB ?_;intro W4 ak;rw[<-ak] at J r o G;have c3:=r.out.cell 3;have c4:=r.out.cell 4;clear ak)
   refine(au.out (.slice xq nq L) _ W4 (af.out.un.kp o.out) ag.out.2.1).mono ?_;rintro _ w5 ⟨u',rfl,o5,k5⟩;obtain⟨P1,U1,H1,ab⟩:=J.out;have A:g<W4.heap.size:=Nat.lt_trans n.out.2 G.out;have I:Hid (∃ P U H,NX 81 3 (w5.setCells g (k*5+3) [u']) w.heap.size (.slice (some ⟨g,0,none⟩) N S) t P U H (λj=>j<k+1)):=⟨_,_,_,ab.cloneUn k5 (by rw[B.out];exact m) (λj hj ax=>by omega) o5 (JO _) A o.out.size⟩;have T:Hid (w5.there g (k*5+3) 1):=(ab.kp k5).there k (by rw[B.out];exact m) 3 (by omega);have y:=r.out.kp k5;have K:Hid (Bx (w5.setCells g (k*5+3) [u']) wr.heap.size 81 #[.int .i64 (ats t k).kind,.int .i64 (ats t k).name,.slice xp np M,.slice xq nq L,.slice xh nh O]):=y.grown (gI w5 g 0 _ _) (λe=>by have:=n.out.2;simp at e;omega);have z:Hid (Kp w (w5.setCells g (k*5+3) [u'])):=(o.out.trans k5).setCells HG.out.1 _ _;have F:Hid (wr.heap.size<(w5.setCells g (k*5+3) [u']).heap.size):=JV (JK.1 y).1 (gI w5 g 0 _ _).size;obtain⟨yq,mq,an,rfl⟩:=o5.ri.sl;clear o5 k5 y ab A J r o G V c3 c4;go_wp2_with(refine nX rfl rfl 34 (.tmp 28) (.tmp 26) rfl g (k*5+3) (.slice yq mq an) rfl rfl rfl T.out xC ?_;intro W6 aj;rw[<-aj] at I K z F;have c4:=K.out.cell 4;clear aj)
   refine(am.out (.slice xh nh O) _ W6 (af.out.hash.kp z.out) ag.out.2.2).mono ?_;rintro _ w7 ⟨h',rfl,o7,k7⟩;obtain⟨P2,U2,H2,aa⟩:=I.out;have A:g<W6.heap.size:=Nat.lt_trans n.out.2 F.out;have Y:Hid (∃ P U H,NX 81 3 (w7.setCells g (k*5+4) [h']) w.heap.size (.slice (some ⟨g,0,none⟩) N S) t P U H (λj=>j<k+1)):=⟨_,_,_,aa.cloneHash k7 (by rw[B.out];exact m) o7 (JO _) A⟩;have al:Hid (w7.there g (k*5+4) 1):=(aa.kp k7).there k (by rw[B.out];exact m) 4 (by omega);have Z:Hid (Kp w (w7.setCells g (k*5+4) [h'])):=(z.out.trans k7).setCells HG.out.1 _ _;have X:Hid (g<(w7.setCells g (k*5+4) [h']).heap.size):=JV A (Kd k7.size (gI w7 g 0 _ _).size);obtain⟨yh,mh,ap,rfl⟩:=aA o7.rd;clear o7 k7 aa A I K z F T c4;go_wp2_with(refine nX rfl rfl 24 (.tmp 35) (.tmp 33) rfl g (k*5+4) (.slice yh mh ap) rfl rfl rfl al.out xB ?_;intro W8 ai;rw[<-ai] at Y Z X;clear ai)
   go_roundw
   case rel=>exact⟨k+1,by omega,by go_num,Y.out,Z.out,X.out⟩
   case measure=>simp[intOf];omega
  ·obtain rfl:k=N:=by omega
   have HX:=JE hx;have n:=JE C;have i2:¬(k:Int)<(k:Int):=by omega
   have aB:=JE B.out;clear hx C ad;go_wp2_with fail;go_ret;exact⟨⟨_,rfl,P,U,H,HX.out.weak (λi s _=>by rw[B.out] at s;exact s)⟩,n.out⟩
section
open Go.Shelf
attribute [local go_sem] Oper.semAt_some
theorem Rd.heldL {B:World}(h:Rd A v l)(f:aR R A B)(d:∀ k,leads v k->R k):Rd B v l:=by
 obtain⟨a,c,e,p,o,n,m⟩:=h;subst e;refine⟨a,c,rfl,p,o,n,λx b i g=>?_⟩;have j:=m x b i g;subst b;exact f.cell j (by rw[fx];exact d _ ⟨x,_,c,rfl,by omega,rfl⟩)
theorem Rd.leads_lt (h:Rd A v l):∀ k,leads v k->k<A.heap.size:=by
 rintro k ⟨x,n,c,e,a,rfl⟩;exact h.inside x n c e a
theorem Ow.leads_lt (h:Ow e A B v l):∀ k,leads v k->B<=k/\k<A.heap.size:=by
 rintro k ⟨x,n,c,rfl,a,rfl⟩;exact KU h _ rfl
theorem zi (Q:Nat->Prop):(∃ n,Q n)->∃ n,Q n/\∀ m,Q m->n<=m:=by
 rintro⟨n,b⟩
 induction n using Nat.strongRecOn with
 | ind n ih=>
  by_cases h:∃ m,m<n/\Q m
  ·obtain⟨m,e,d⟩:=h
   exact ih m e d
  ·exact⟨n,b,λm c=>Nx λa=>h ⟨m,a,c⟩⟩
open Classical in
noncomputable def oD (Q:Nat->Prop):Nat:=if h:∃ n,Q n then Classical.choose (zi Q h) else 0
theorem zj {Q:Nat->Prop}(h:∃ n,Q n):Q (oD Q)/\∀ m,Q m->oD Q<=m:=by
 unfold oD;rw[dif_pos h];exact Classical.choose_spec (zi Q h)
theorem If (v:Value)(l:List UInt8)(w:World)(b:Rd w v l):
  Calls prog 98 #[v] w λe w'=>e=.returned (.func (.func 133) #[] #[.pointer (some ⟨w.heap.size,0,none⟩)])/\w.alloc (.cells #[v] 24)=w':=by
 obtain⟨a,n,c,rfl⟩:=aA b;clear b;go_enter func98,ntmps98;go_wp2_with fail;go_ret;exact⟨rfl,rfl⟩
theorem Ig (v:Value)(s:List UInt8)(N b:Nat)(w:World)(M:Rd w v s)(hs:s.length=32)(H:w.cell? ⟨b,0,none⟩=some v):
  zh prog 133 #[.pointer (some ⟨b,0,none⟩)] (λi aa Y A=>Rd A aa (aU s i)/\∀ k,leads aa k->Y k\/leads v k) N (λk=>k=b\/leads v k) w:=by
 intro l J Jx W f ak aj hJ al r hY h0;have ab:0<N:=Nat.pos_of_ne_zero (λe=>by subst e;exact r _ _ h0);have F:=f.cell H (.inl rfl);have C:Rd W v s:=M.heldL f (λk h=>.inr h);have HJ:=JE hJ;have HY:=JE hY;have ae:=JE r;have af:=JE f;have HV:=JE M;have HD:=JE (λW (aa:Value) i (hu:Rd W aa (aU s i))=>yE aa ⟨#[112,97,116,104]⟩ (aU s i) W hu (by decide) (by rw[jS hs i];omega));have HS:Hid (∀ i,bH (aU s i) (⟨#[112,97,116,104]⟩:ByteArray).data.toList=aU s (i+1)):=λi=>rfl
 obtain⟨a0,n0,c0,rfl⟩:=aA M;generalize Z:Value.slice a0 n0 c0=v at *;obtain⟨RL,I⟩:∃ RL:Nat->Value->World->Prop,(fun(i:Nat) (p:Value) (wr:World)=>∃ Y:Nat->Prop,Rd wr p (aU s i)/\(∀ k,leads p k->Y k\/leads v k)/\wr.cell? ⟨b,0,none⟩=some v/\aR (λk=>k=b\/leads v k) w wr/\J i Y wr/\(∀ j,Y j->W.heap.size<=j/\j<wr.heap.size)/\W.heap.size<=wr.heap.size)=RL:=⟨_,rfl⟩;have t:Hid (∀ i p wr,RL i p wr↔∃ Y:Nat->Prop,Rd wr p (aU s i)/\(∀ k,leads p k->Y k\/leads v k)/\wr.cell? ⟨b,0,none⟩=some v/\aR (λk=>k=b\/leads v k) w wr/\J i Y wr/\(∀ j,Y j->W.heap.size<=j/\j<wr.heap.size)/\W.heap.size<=wr.heap.size):=λi p wr=>by rw[<-I]
 have g:Hid (RL 0 v W):=(t.out _ _ _).2 ⟨_,C,λk c=>.inr c,F,f,h0,λ_ h=>h.elim,JO _⟩;clear I hJ hY r H M f h0 C hs;subst Z;refine(callsIn_wide (n:=5)).1 ?_;refine callsIn_of_wp func133 rfl trivial ?_ rfl;simp only[ntmps133,Lj,Lr,Lk,Ka,Kf,Nat.reduceAdd,Nat.reduceSub,Lg,Lh,Lq,La,Ll];gi_wp2
 gi_loopw [3] (λp wr=>∃ i:Nat,i<N/\RL i p wr) (λp wr=>oD λd=>∃ i:Nat,i<N/\d=N - i/\RL i p wr)
 case atStart=>exact⟨0,ab,g.out⟩
 case round=>
  clear F;obtain⟨i,X,hm,hr⟩:∃ i,i<N/\(oD λd=>∃ i:Nat,i<N/\d=N - i/\RL i u3 wr)=N - i/\RL i u3 wr:=by
   obtain⟨i0,h1,h2⟩:=hrel;obtain⟨⟨i,h3,h4,h5⟩,_⟩:=zj (Q:=λd=>∃ i:Nat,i<N/\d=N - i/\RL i u3 wr) ⟨_,i0,h1,rfl,h2⟩;exact⟨i,h3,h4,h5⟩
  have HM:=JE hm;obtain⟨Y,K,U,H,f,V,m,D⟩:=(t.out _ _ _).1 hr;obtain⟨a3,n3,c3,rfl⟩:=aA K;obtain⟨fn,tmps,O,ag,hy,hR⟩:=HY.out i Y wr _ 4 X V m f ⟨K,U⟩;have ah:prog.follows .mixedOrders=true:=by kernel_rfl
  have ai:prog.follows .lateStores=true:=by kernel_rfl
  clear hrel hm hr;gi_wp2
  have RD:=JE K;have x:=JE (JN H (JN f (JN m (JN D U))));have am:=JE V;clear H f m D U V K;refine hR.mono ?_;rintro e w2 ⟨a,(⟨rfl,E⟩|⟨rfl,T⟩)⟩
  ·have G:=a.cell x.out.1 (.inr (.inl rfl))
   have y:Rd w2 (.slice a3 n3 c3) (aU s i):=RD.out.heldL a λk c=>(x.out.2.2.2.2 k c).imp id .inr
   have B:aR (λk=>k=b\/leads (.slice a0 n0 c0) k) w w2:=x.out.2.1.trans (a.mono λ_ h=>.inr h);have HX:=JE (JN G (JN B (JN E a.size)));have ad:=JE y;clear hy hR G B E a y;gi_wp2_with (refine⟨trivial,?_⟩;gi_at_call 104;refine(callsIn_wide.2 (HD.out w2 _ i ad.out)).mono ?_;rintro e P ⟨⟨v3,rfl,u⟩,z⟩;rw[HS.out] at u;obtain⟨a9,S,c9,rfl⟩:=aA u.rd)
   obtain⟨q1,q2,R,L⟩:=HX.out;obtain⟨_,_,aV,p4,p5⟩:=x.out;have q:i+1<N:=by
    rcases Kh (Nat.succ_le_of_lt X) with h|h
    ·exact h
    ·rw[show i+1=N from h] at R
     exact absurd R (ae.out _ _)
   have o:RL (i+1) (.slice a9 S c9) P:=(t.out _ _ _).2 ⟨λk=>(Y k/\¬leads (.slice a3 n3 c3) k)\/leads (.slice a9 S c9) k,u.rd,λk c=>.inl (.inr c),z.cell q1,q2.trans (aR.of_kp z),
    HJ.out (i+1) _ _ w2 P R (λk c=>⟨(aV k c.1).1,JV (aV k c.1).2 L⟩) (NY z) (λk c=>c.imp id λh=>u.leads_lt k h),
    λk c=>c.elim (λh=>⟨(aV k h.1).1,JV (aV k h.1).2 (Kd L z.size)⟩) (λh=>⟨Kd (Kd p4 L) (u.leads_lt k h).1,(u.leads_lt k h).2⟩),Kd p4 (Kd L z.size)⟩
   refine⟨⟨i+1,q,o⟩,?_⟩;rw[HM.out];have:=(zj (Q:=λd=>∃ i:Nat,i<N/\d=N - i/\RL i (.slice a9 S c9) P) ⟨_,i+1,q,rfl,o⟩).2 _ ⟨i+1,q,rfl,o⟩;omega
  ·clear hy hR
   gi_wp2
   refine bodyPost_end (results_none rfl _ _ _) rfl ?_;exact⟨⟨_,rfl⟩,_,λj h=>⟨(x.out.2.2.1 j h.1).1,JV (x.out.2.2.1 j h.1).2 a.size⟩,.inr ⟨i,X,T⟩⟩
section
variable {α : Type} {S : Sh α} {Z : Nat -> Prop} {P : Program} {w : World} {t e : TypeId} {F : Fence} {nF : Nat}
theorem zk (K:SK P t e S.k){A:Array Oper}(M:o.guard=none)(s x:Operand)
  (ho:o.op=.call { callee:=.builtin .append,args:=#[s,x],argTypes:=#[t,t] })
  (B:Nat) (v:Value) (d:List α) (hs:a.eval s=v) (D:GZ S e Z w B v d) (aa:Value) (y:α) (hx:a.eval x=aa) (hu:SE S (λg=>some g=v.ownBlock\/Z g) w aa [y]) (E:d.length+1<=1000000) (q:B<=w.heap.size)
  (h:∀ r w',GZ S e Z w' B r (d++[y])->w.grownBy w' v.ownBlock->(r.ownBlock=v.ownBlock\/r.ownBlock=some w.heap.size)->wpListIn F nF P A Q rest (a.put o.dst r) w'):wpListIn F nF P A Q (o :: rest) a w:=by
 obtain⟨i,z,hi,hz,n,O,L⟩:=K.hi;obtain⟨us,Y,h2,h3⟩:=D;obtain⟨ad,c,rfl,hc,hm,W,p⟩:=hu;have R:(d.length+1)*i.bytes<=140737488355328:=by
  have:=LS E O;omega
 obtain⟨b,H,rfl,_,hn⟩:=p (by simp);obtain⟨l,n1,V,n3,n4⟩:=SE.flat hn;refine wpListIn_append_own_at w M s x t ho B e i z S.k i.bytes K.ht hi hz n rfl L S.pos v d.length us hs Y ⟨b,H,none⟩ 1 c l hx n1 (λj y u=>?_) V (by unfold maxLen;omega) R q
  (λr w' k1 J _ I=>h r w' ⟨us++l,by rw[JQ];exact k1,λy C=>?_,λj y u=>?_⟩ J I)
 ·rw[Addr.add_mid]
  exact n3 j y u
 ·rcases Le.1 C with C|C
  ·exact h2 y C
  ·exact V y C
 ·have m:=Y.1
  by_cases G:j<d.length
  ·rw[Kt G] at u
   obtain⟨vs,U,T⟩:=h3 j y u;refine⟨vs,λf N=>?_,Sh.moved T J I⟩;have X:(j+1)*S.k<=d.length*S.k:=Lp _ G;rw[ME,MF] at X;rw[Kt (by rw[m];omega)];exact U f N
  ·rw[Kn (by omega)] at u
   obtain⟨vs,U,T⟩:=n4 (j - d.length) y u;refine⟨vs,λf N=>?_,Sh.moved T J I⟩;have X:d.length*S.k<=j*S.k:=Lp _ (by omega);rw[Kn (by rw[m];omega),m,<-U f N,Nat.sub_mul];congr 1
   omega
end
structure gZ (w0:World)(B0 gb gl last:Nat)(s:List UInt8)(i:Nat)(Y:Nat->Prop)(A:World)(o:Value):Prop where
 mk ::
 box:Bx A gb 115 #[o]
 lst:Bx A gl 3 #[.int .i64 (last:Int)]
 row:GZ gz 24 (λg=>Y g\/g=gb) A B0 o (em s i)
 apt:∀ g,o.ownBlock=some g->¬Y g
 kp:Kp w0 A
 sz:B0<=A.heap.size
theorem GZ.under {α:Type}{S:Sh α}{c:World}{C:Nat}{t:List α}{k:Nat->Prop}(h:GZ S e (λg=>Y g\/g=b) A C v t)(d:az Y A c)(a:li Y k A c)(l:∀ g,v.ownBlock=some g->¬Y g):GZ S e (λg=>k g\/g=b) c C v t:=by
 have n:GZ S e (λg=>(Y g\/g=b)\/A.heap.size<=g) A C v t:=h.solidly λg a=>a.elim (λh=>.inr (.inl h)) λh=>.inr (.inr λd=>by have:=d.lt;omega)
 have m:GZ S e (λg=>(Y g\/g=b)\/A.heap.size<=g) c C v t:=n.step d (λg a=>.inl (.inl (.inl a))) l;refine m.solidly λg f=>?_
 rcases f with j|j
 ·rcases a g j with i|i
  ·exact .inr (.inl (.inl (.inl i)))
  ·exact .inr (.inl (.inr i.1))
 ·exact .inr (.inl (.inl (.inr j)))
theorem gZ.minds {e a:Nat}(D:w0.heap.size<=d)(C:f<d)(B:e<d)(j:Prop):ed d (λY A=>j/\∃ o,gZ w0 d f e a s i Y A o):=by
 rintro Y E A F ⟨x,o,u,t,r,q,p,z⟩ l b m;have w:¬Y f:=λh=>by have:=(l _ h).1;omega
 have v:¬Y e:=λh=>by have:=(l _ h).1;omega
 refine⟨x,o,(b.block f (JK.1 u).1 w).trans u,(b.block e (JK.1 t).1 v).trans t,r.under b m q,λg c h=>?_,Below.trans p (b.below p.size (λk y=>by have:=(l k y).1;omega)),Kd z b.size⟩;rcases m g h with n|n
 ·exact q g c n
 ·have:=(r.lt g c).2;omega
theorem gZ.next {c:World}{a:Nat}{o l:Value}{q:Obj}(U:w0.heap.size<=a)(W:a<m)(V:j<m)(y:a≠j)(h:gZ w0 m a j d s i Y A o)(D:∀ k,Y k->m<=k/\k<A.heap.size)(E:∀ k,R k->k<m/\k≠a)
  (L:GZ gz 24 (λg=>(Y g/\¬leads v g)\/g=a) c m l (em s (i+1))) (n:(A.alloc q).grownBy c o.ownBlock) (z:l.ownBlock=o.ownBlock\/l.ownBlock=some (A.alloc q).heap.size):
  c.frozen? ⟨a,0,none⟩=false/\c.cell? ⟨a,0,none⟩=some o/\gZ w0 m a j d s (i+1) (λk=>Y k/\¬leads v k) (c.setCell ⟨a,0,none⟩ l) l/\aR (λk=>Y k\/R k) A (c.setCell ⟨a,0,none⟩ l):=by
 obtain⟨T,S,Q,G,P,O⟩:=h;have f:∀ g,o.ownBlock=some g->m<=g/\g<A.heap.size:=Q.lt;have I:some a≠o.ownBlock:=λe=>by have:=(f a e.symm).1;omega
 have H:some j≠o.ownBlock:=λe=>by have:=(f j e.symm).1;omega
 have p:Bx c a 115 #[o]:=((n.block a (by simp;omega) I).trans (Below.heap_alloc A _ a (by omega))).trans T;have u:Bx c j 3 #[.int .i64 (d:Int)]:=((n.block j (by simp;omega) H).trans (Below.heap_alloc A _ j (by omega))).trans S;have b:az (λk=>k=a) c (c.setCell ⟨a,0,none⟩ l):=(NU _ _).setCell _ _ (.inr rfl);have t:A.heap.size<=c.heap.size:=by have:=n.size;simp at this;omega
 have r:∀ g,l.ownBlock=some g->m<=g/\¬Y g:=λg e=>by
  rcases z with B|B
  ·rw[B] at e
   exact⟨(f g e).1,G g e⟩
  ·rw[B] at e
   simp only[JY,Ky] at e;refine⟨by omega,λJ=>?_⟩;have:=(D g J).2;omega
 have C:Kp w0 c:=NS (v:=o) (P.alloc _) n (λk x=>by have:=(f k x).1;omega);refine⟨p.frozen 0,?_,⟨p.set 0 l,(b.block j (JK.1 u).1 (λe=>y e.symm)).trans u,L.step b (λg n=>.inl (.inr n)) (λg e M=>by have:=(r g e).1;omega),λg e N=>(r g e).2 N.1,Below.trans C (b.below C.size (λk x=>by omega)),Kd O (Kd t b.size)⟩,⟨Kd t b.size,λk x K=>?_⟩⟩
 ·have:=p.cell 0
  simpa using this
 ·have F:k≠a/\some k≠o.ownBlock:=by
   rcases K with w|w
   ·exact⟨λe=>by have:=(D k w).1;omega,λe=>G k e.symm w⟩
   ·exact⟨(E k w).2,λe=>by have:=(f k e.symm).1;have:=(E k w).1;omega⟩
  exact(b.block k (by omega) F.1).trans ((n.block k (by simp;omega) F.2).trans (Below.heap_alloc A _ k x))
theorem zl (v:Value)(s:List UInt8)(n:Nat)(w:World)(hv:Rd w v s)(hs:s.length=32)(hn:n<=1000):
  Calls prog 56 #[v,.int .i64 (n:Int)] w λe w'=>(∃ o r,e=.returned (.tuple #[o,r])/\aJ gz w' o (em s n)/\Rd w' r (gR s n)/\br (λg=>g<w.heap.size) o)/\Kp w w':=by
 have aG:=JE (λW (hW:Kp w W)=>If v s W (hv.kp hW));have aF:=JE (λN b W (hW:Kp w W) (hb:W.cell? ⟨b,0,none⟩=some v)=>Ig v s N b W (hv.kp hW) hs hb);have HV:=JE hv;obtain⟨L,hL⟩:∃ L,(if n=0 then 1 else n)=L:=⟨_,rfl⟩;have aB:gR s n=aU s L:=by unfold gR;rw[hL]
 have aQ:n<=L/\1<=L/\L<=1000:=by rw[<-hL];split <;> omega
 have aX:max (n:Int) 1=(L:Int):=by rw[<-hL];split <;> omega
 rw[aB];obtain⟨a,X,c,rfl⟩:=aA hv;have a1:=JE aQ;clear hv hs hL aB;refine(callsIn_wide (n:=4)).1 ?_;refine callsIn_of_wp_marks func56 rfl trivial ?_ rfl;refine wpIn_wide.2 ?_;simp only[ntmps56,Lj,Lk,Kf,Ka,Nat.reduceAdd,Nat.reduceSub,Lg,Lh,Lq,La,Ll];go_wp2_with fail;obtain⟨w2,u⟩:∃ x,(w.alloc (.cells #[.slice none 0 0] 115)).alloc (.cells #[.int .i64 (L:Int)] 3)=x:=⟨_,rfl⟩;have ab:w2.heap.size=w.heap.size+2:=by rw[<-u];simp
 have av:Bx w2 w.heap.size 115 #[.slice none 0 0]:=by rw[<-u];exact(Oa w _ _).kp ((NQ _).alloc _)
 have an:Bx w2 (w.heap.size+1) 3 #[.int .i64 (L:Int)]:=by
  have:=Oa (w.alloc (.cells #[.slice none 0 0] 115)) 3 #[.int .i64 (L:Int)];rw[JY] at this;rw[<-u];exact this
 have E:Kp w w2:=by rw[<-u];exact((NQ _).alloc _).alloc _
 rw[u];clear u;refine(aG.out w2 E).mono ?_;rintro _ _ ⟨rfl,rfl⟩;obtain⟨j,z⟩:∃ x,w2.alloc (.cells #[.slice a X c] 24)=x:=⟨_,rfl⟩;have y:Kp w2 j:=by rw[<-z];exact(NQ _).alloc _
 have am:j.heap.size=w.heap.size+3:=by rw[<-z];simp[ab]
 have au:j.cell? ⟨w2.heap.size,0,none⟩=some (.slice a X c):=by
  have:=(Oa w2 24 #[.slice a X c]).cell 0;rw[<-z];simp
 rw[z];have ag:=JE (aF.out (L+1) w2.heap.size j (E.trans y) au);have aV:Hid (gZ w j.heap.size w.heap.size (w.heap.size+1) L s 0 (λ_=>False) j (.slice none 0 0)):=⟨av.kp y,an.kp y,by exact GZ.nil _ _ _,λg hg=>(by cases hg),E.trans y,JO _⟩;have p:Hid (w2.heap.size=w.heap.size+2/\j.heap.size=w.heap.size+3):=⟨ab,am⟩;have K3:=JE (E.trans y);have hE:∀ args w,(callFunc 133 args).run prog w=.ok (.enter 133 args) w:=enters_of func133 (by kernel_rfl) rfl;clear z au av an E y aG aF ab am;go_wp2_with fail;obtain⟨VL,ay⟩:∃ VL:Nat->Prop,(λk=>leads (.slice a X c) k)=VL:=⟨_,rfl⟩;have H:∀ k,leads (.slice a X c) k↔VL k:=λk=>by rw[<-ay]
 have G:∀ k,VL k->k<w.heap.size:=λk d=>HV.out.leads_lt k ((H k).2 d)
 simp only[H] at ag;obtain⟨R,hR⟩:∃ R:Nat->Prop,(λk=>k=w2.heap.size\/VL k)=R:=⟨_,rfl⟩;have ah:Hid (∀ k,R k->k<j.heap.size/\k≠w.heap.size):=λk d=>by
  have:=p.out;rw[<-hR] at d;rcases d with rfl|d
  ·omega
  ·have:=G k d;omega
 have aT:Hid (∀ k,VL k->R k):=λk d=>by rw[<-hR];exact .inr d
 have aE:=JE G;rw[hR] at ag;clear hR ay H G;refine Ie (gf:=133) (lb:=#[.pointer (some ⟨w2.heap.size,0,none⟩)]) rfl hE (NQ j) (λk d=>(ah.out k d).1) ag.out rfl
   (λi Y A=>i<=L/\∃ o,gZ w j.heap.size w.heap.size (w.heap.size+1) L s i Y A o) (λe i Y A=>e=.exit 0/\∃ o,gZ w j.heap.size w.heap.size (w.heap.size+1) L s (L+1) Y A o) ?mI ?mIx ?IN ?Tl ?TT ?h0
   (λv a' _=>a'={ tmps:=#[.slice a X c,.int .i64 (n:Int),undef,undef,.slice none 0 0,.slice none 0 0,.pointer (some ⟨w.heap.size,0,none⟩),.pointer (some ⟨w.heap.size+1,0,none⟩),v,.int .i64 (n:Int),.int .i64 (L:Int),.slice a X c,.func (.func 133) #[] #[.pointer (some ⟨w2.heap.size,0,none⟩)],v,undef,undef,undef,undef,undef,undef,undef,undef,undef,undef,undef,undef,undef,undef,undef],defers:=[] })
   (λ_ _ _ _ _ _ h _ _=>h) ?assign ?body ?done ?stop
 case mI=>intro i;exact gZ.minds (by have:=p.out;omega) (by have:=p.out;omega) (by have:=p.out;omega) _
 case mIx=>intro e i;exact gZ.minds (by have:=p.out;omega) (by have:=p.out;omega) (by have:=p.out;omega) _
 case IN=>rintro Y A ⟨h,_⟩;omega
 case Tl=>intro i v Y A h k d;exact(h.2 k d).imp id (aT.out k)
 case TT=>
  rintro i v Yi Y A A' l o ⟨hr,hv⟩ aK _ _ hl hs;exact⟨hr.turn hl rfl hs,λk d=>(hv k d).imp (aK k) id⟩
 case h0=>exact⟨JW _,_,aV.out⟩
 case assign=>
  intro l i Y Yi v A Kk f aP hK;obtain⟨O,I,M,rfl⟩:=aA aP.1;gi_wp2
  exact hK _ _ (NQ _) rfl
 case body=>
  rintro l i Y v a' A hi ⟨aY,o,f⟩ ai aZ ⟨ad,aa⟩ rfl;have aM:=f.box.cell 0;have aN:=f.lst.cell 0;simp only[JT,JS] at aM aN;obtain⟨O,I,M,rfl⟩:=aA ad;obtain⟨ao,no,co,rfl⟩:=Oc f.row.gl;have hz:=p.out;have al:=f.sz;have P:(em s i).length+1<=1000000:=by rw[jU];omega
  have U:Hid (SE gz (λg=>some g=(Value.slice ao no co).ownBlock\/((Y g/\¬leads (.slice O I M) g)\/g=w.heap.size)) (A.alloc (.cells #[.slice O I M] 24)) (.slice (some ⟨A.heap.size,0,none⟩) 1 1) [aU s i]):=by
   refine SE.litZ (S:=gz) 24 ⟨_,rfl,ad,λx m c' e h0 d=>?_⟩ rfl;have ae:leads (.slice O I M) x.block:=⟨x,m,c',e,h0,rfl⟩;rcases d with d|d|d
   ·have h1:=(f.row.lt _ d.symm).1
    rcases aa _ ae with h2|h2
    ·exact f.apt _ d.symm h2
    ·have:=aE.out _ h2;omega
   ·exact d.2 ae
   ·rcases aa _ ae with h2|h2
    ·have:=(ai _ h2).1;omega
    ·have:=aE.out _ h2;omega
  have T:Hid (GZ gz 24 (λg=>(Y g/\¬leads (.slice O I M) g)\/g=w.heap.size) (A.alloc (.cells #[.slice O I M] 24)) j.heap.size (.slice ao no co) (em s i)):=
   (f.row.solidly λg hg=>.inr (.inl (hg.imp And.left id))).kp ((NQ A).alloc _)
  have F:j.heap.size<=(A.alloc (.cells #[.slice O I M] 24)).heap.size:=Kd al (by simp);have aI:=JE f;have aD:=JE ai;have aj:=DM s i;clear f ad aa al hz;by_cases af:i=L
  ·subst af
   gi_wp2_with (gi_at_builtin;refine zk (S:=gz) (Z:=λg=>(Y g/\¬leads (.slice O I M) g)\/g=w.heap.size) (o:=⟨some 17,_,_,_,_,_⟩) byK rfl _ _ rfl j.heap.size _ (em s i) rfl T.out _ (aU s i) rfl U.out P F ?_;intro v' w5 V g5 h5;rw[<-aj] at V;obtain⟨a5,c5,e5,_,_⟩:=Ob V.gl;rw[jU] at e5;subst e5;obtain⟨f5,aS,t,aC⟩:=gZ.next (R:=R) (by have:=p.out;omega) (by have:=p.out;omega) (by have:=p.out;omega) (by omega) aI.out aD.out ah.out V g5 h5;have ca:=t.box.cell 0;have Q:=t.lst.cell 0;simp only[JT,JS] at ca Q)
   exact⟨aC,.inr ⟨_,rfl,rfl,_,t⟩⟩
  ·gi_wp2_with (gi_at_builtin;refine zk (S:=gz) (Z:=λg=>(Y g/\¬leads (.slice O I M) g)\/g=w.heap.size) (o:=⟨some 17,_,_,_,_,_⟩) byK rfl _ _ rfl j.heap.size _ (em s i) rfl T.out _ (aU s i) rfl U.out P F ?_;intro v' w5 V g5 h5;rw[<-aj] at V;obtain⟨a5,c5,e5,_,_⟩:=Ob V.gl;rw[jU] at e5;subst e5;obtain⟨f5,aS,t,aC⟩:=gZ.next (R:=R) (by have:=p.out;omega) (by have:=p.out;omega) (by have:=p.out;omega) (by omega) aI.out aD.out ah.out V g5 h5;have ca:=t.box.cell 0;have Q:=t.lst.cell 0;simp only[JT,JS] at ca Q)
   exact .inl ⟨by omega,_,t⟩
 case done=>rintro D Y W hD ax aw ⟨h,_⟩ hd;omega
 case stop=>
  rintro D e i Y W hD ax aw hi ⟨rfl,o,f⟩ hd;rename_i Qp Kk a0
  have K:=f.row.gl;obtain⟨gb,ob,Q,q,e1,_,cq,rq⟩:=aJ.bs (i:=L) K (by rw[jU];omega);rw[jU] at e1;subst e1;obtain⟨aq,nq,aR,rfl⟩:=aA rq;have c6:=f.box.cell 0;have c7:=f.lst.cell 0;simp only[JT,JS] at c6 c7;have e2:kE (em s (L+1)) L=aU s L:=sA s (by omega);rw[e2] at rq;have B:=SE.pre K n (by omega);rw[DN s (by omega)] at B;have HG:=JE B;have aW:Hid (br (λg=>g<w.heap.size) (.slice (some ⟨gb,ob,none⟩) n Q)):=dZ (C:=j.heap.size) (λg hg=>(f.row.lt g (by cases hg;rfl)).1) λg hg=>by have:=p.out;omega
  have HR:=JE rq;have aH:=JE f.kp;have HD:=JE hd;have i1:¬(n:Int)<0:=by omega
  have i2:(n:Int)<=(Q:Int):=by
   obtain⟨_,c',e3,h3,_⟩:=Ob K;rw[jU] at e3 h3;simp only[JR] at e3;omega
  have i3:(L:Int)<((L+1:Nat):Int):=by omega
  clear f K B rq hd e2 aw ax;go_wp2;go_region
  go_wp2;have ap:W.drew.heap[D]?=some (.deferred (some [])):=HD.out;have ak:az (λk=>k=D) W.drew (W.drew.putObj D (.deferred none)):=(NU _ _).putObj _ _ (.inr rfl);have ar:Cs W.drew (W.drew.putObj D (.deferred none)):=ak.cs λg e hs=>by
   subst e;obtain⟨_,_,_,h⟩:=hs;rw[ap] at h;cases h
  have J:Kp W W.drew:=(NQ W).drew;have aO:aJ gz (W.drew.putObj D (.deferred none)) (.slice (some ⟨gb,ob,none⟩) n Q) (em s n):=aJ.cs (Od (show aJ gz W _ _ from HG.out) J) ar;have aL:=(HR.out.kp J).cs ar;refine⟨by simp,.inl ⟨_,_,rfl,run_takeDeferred ap,?_⟩⟩;exact⟨_,results_tmp2 rfl _ _ _,⟨.slice (some ⟨gb,ob,none⟩) n Q,.slice aq nq aR,rfl,aO,aL,aW.out⟩,Below.trans (aH.out.trans J) (ak.below (aH.out.trans J).size (λk d=>by have:=p.out;omega))⟩
end
section
variable {α : Type} {S : Sh α} {Z : Nat -> Prop} {P : Program} {w : World} {t e : TypeId}
theorem Ip (K:SK P t e S.k){C:Array Oper}{K':Act->World->Prop}{E:Prop}(hg:o.guard=none)(s x:Operand)
  (ho:o.op=.call { callee:=.builtin .append,args:=#[s,x],argTypes:=#[t,t] })
  (B:Nat) (v:Value) (d:List α) (hs:a.eval s=v) (G:GZ S e Z w B v d) (u:Value) (y:α) (hx:a.eval x=u) (hu:SE S (λg=>some g=v.ownBlock\/Z g) w u [y]) (H:d.length+1<=1000000) (q:B<=w.heap.size)
  (h:∀ r w',GZ S e Z w' B r (d++[y])->w.grownBy w' v.ownBlock->(r.ownBlock=v.ownBlock\/r.ownBlock=some w.heap.size)->K' (a.put o.dst r) w'):if Region.wanted o (yielded C a.tmps)=true then Oper.wp P o a w K' Q else E:=by
 have hw:Region.wanted o (yielded C a.tmps)=true:=by simp[Region.wanted,hg]
 rw[if_pos hw];obtain⟨i,z,hi,hz,n,R,N⟩:=K.hi;obtain⟨us,h1,h2,h3⟩:=G;obtain⟨ad,c,rfl,hc,hm,Y,p⟩:=hu;have T:(d.length+1)*i.bytes<=140737488355328:=by
  have:=LS H R;omega
 obtain⟨b,J,rfl,_,hn⟩:=p (by simp);obtain⟨l,n1,X,n3,n4⟩:=SE.flat hn;obtain⟨r,w',F,k1,M,_,L⟩:=run_append_own_at (P:=P) w B t o.type e i z S.k i.bytes K.ht hi hz n rfl N S.pos v d.length us h1 ⟨b,J,none⟩ 1 c l n1 (λj y A=>by rw[Addr.add_mid];exact n3 j y A) X (by unfold maxLen;omega) T q;have U:=h r w' ⟨us++l,by rw[JQ];exact k1,λy D=>?_,λj y A=>?_⟩ M L
 ·unfold Oper.wp
  simp[execOp,ho,resolve,invoke,builtin,hs,hx,F,Result.andThen];exact U
 ·rcases Le.1 D with D|D
  ·exact h2 y D
  ·exact X y D
 ·have m:=h1.1
  by_cases I:j<d.length
  ·rw[Kt I] at A
   obtain⟨vs,W,V⟩:=h3 j y A;refine⟨vs,λf O=>?_,Sh.moved V M L⟩;have h5:(j+1)*S.k<=d.length*S.k:=Lp _ I;rw[ME,MF] at h5;rw[Kt (by rw[m];omega)];exact W f O
  ·rw[Kn (by omega)] at A
   obtain⟨vs,W,V⟩:=n4 (j - d.length) y A;refine⟨vs,λf O=>?_,Sh.moved V M L⟩;have h5:d.length*S.k<=j*S.k:=Lp _ (by omega);rw[Kn (by rw[m];omega),m,<-W f O,Nat.sub_mul];congr 1
   omega
end
structure MIn (w:World)(t o x y l:Value)(m:Md):Prop where
 mk ::
 tree:NL w t m.tree
 own:SL w o m.own
 path:PIn w x y m.path
 last:Rd w l m.last
theorem MIn.kp {t o x y l:Value}{m:Md}(h:MIn w t o x y l m)(k:Kp w w'):MIn w' t o x y l m:=⟨h.tree.kp k,Od h.own k,h.path.kp k,h.last.kp k⟩
def MV (w:World)(v:Value)(m:Md):Prop:=∃ t o x y l,v=.agg #[t,o,x,y,l]/\MIn w t o x y l m
theorem MIn.none (w:World):MIn w (.slice none 0 0) (.slice none 0 0) (.slice none 0 0) (.slice none 0 0) (.slice none 0 0) fv:=⟨NL.nil w,aJ.nil w,⟨bU w,aJ.nil w⟩,bU w⟩
def Oj:=@MIn.none
theorem Md.ext' {a b:Md}(f:a.tree=b.tree)(e:a.own=b.own)(d:a.path=b.path)(c:a.last=b.last):a=b:=by cases a;cases b;simp_all
theorem Iu (t o x y l t' o' x' y' l':Value)(m n:Md)(w:World)(f:MIn w t o x y l m)(d:MIn w t' o' x' y' l' n):
  Calls prog 22 #[.agg #[t,o,x,y,l],.agg #[t',o',x',y',l']] w λe w'=>aK e (m=n)/\Kp w w':=by
 have H1:=JE (λW (a:Kp w W)=>xm t t' _ _ W (f.tree.kp a) (d.tree.kp a));have H2:=JE (λW (a:Kp w W)=>Is o o' _ _ W (Od f.own a) (Od d.own a));have H3:=JE (λW (a:Kp w W)=>It x y x' y' _ _ W (f.path.kp a) (d.path.kp a));have H4:=JE (λW (a:Kp w W)=>fM l l' _ _ W (f.last.kp a) (d.last.kp a));obtain⟨a1,n1,c1,rfl⟩:=f.tree.sl;obtain⟨a2,D,Z,rfl⟩:=Oc f.own;obtain⟨a3,C,Y,rfl⟩:=aA f.path.pub;obtain⟨a4,B,X,rfl⟩:=Oc f.path.step;obtain⟨a5,A,V,rfl⟩:=aA f.last;obtain⟨b1,m1,d1,rfl⟩:=d.tree.sl;obtain⟨b2,H,U,rfl⟩:=Oc d.own;obtain⟨b3,G,T,rfl⟩:=aA d.path.pub;obtain⟨b4,F,S,rfl⟩:=Oc d.path.step;obtain⟨b5,E,R,rfl⟩:=aA d.last;have HY:Hid (m.tree=n.tree->m.own=n.own->m.path=n.path->m.last=n.last->m=n):=Md.ext';have HN:Hid ((m.tree≠n.tree\/m.own≠n.own\/m.path≠n.path\/m.last≠n.last)->¬m=n):=λh e=>by subst e;rcases h with h|h|h|h <;> exact h rfl
 generalize (m=n)=P at *;generalize z:(m.tree=n.tree)=T1 at *;generalize v:(m.own=n.own)=T2 at *;generalize u:(m.path=n.path)=T3 at *;generalize m.last=L1 at *;generalize n.last=L2 at *;have i:Hid ((¬T1\/¬T2\/¬T3\/L1≠L2)->¬P):=λh=>HN.out (by rw[<-z,<-v,<-u] at h;exact h)
 clear f d HN z v u;go_enter func22,ntmps22;go_wp2_with fail;obtain⟨j,b⟩:∃ j,(w.alloc (.cells #[.slice a1 n1 c1,.slice a2 D Z,.slice a3 C Y,.slice a4 B X,.slice a5 A V] 47)).alloc (.cells #[.slice b1 m1 d1,.slice b2 H U,.slice b3 G T,.slice b4 F S,.slice b5 E R] 47)=j:=⟨_,rfl⟩;have s:Bx j w.heap.size 47 #[.slice a1 n1 c1,.slice a2 D Z,.slice a3 C Y,.slice a4 B X,.slice a5 A V]:=by rw[<-b];exact(Oa w _ _).kp ((NQ _).alloc _)
 have c:Bx j (w.heap.size+1) 47 #[.slice b1 m1 d1,.slice b2 H U,.slice b3 G T,.slice b4 F S,.slice b5 E R]:=by
  rw[<-b];have:=Oa (w.alloc (.cells #[.slice a1 n1 c1,.slice a2 D Z,.slice a3 C Y,.slice a4 B X,.slice a5 A V] 47)) 47 #[.slice b1 m1 d1,.slice b2 H U,.slice b3 G T,.slice b4 F S,.slice b5 E R];rwa [JY] at this
 have r:Kp w j:=by rw[<-b];exact((NQ _).alloc _).alloc _
 have K1:=JE r;have HC:Hid (∀ W,Kp j W->(W.cell? ⟨w.heap.size,1,none⟩=some (.slice a2 D Z)/\W.cell? ⟨w.heap.size,2,none⟩=some (.slice a3 C Y)/\W.cell? ⟨w.heap.size,3,none⟩=some (.slice a4 B X)/\W.cell? ⟨w.heap.size,4,none⟩=some (.slice a5 A V)) /\
   W.cell? ⟨w.heap.size+1,1,none⟩=some (.slice b2 H U)/\W.cell? ⟨w.heap.size+1,2,none⟩=some (.slice b3 G T)/\W.cell? ⟨w.heap.size+1,3,none⟩=some (.slice b4 F S)/\W.cell? ⟨w.heap.size+1,4,none⟩=some (.slice b5 E R)):=λW a=>
  ⟨⟨(s.kp a).cell 1,(s.kp a).cell 2,(s.kp a).cell 3,(s.kp a).cell 4⟩,(c.kp a).cell 1,(c.kp a).cell 2,(c.kp a).cell 3,(c.kp a).cell 4⟩
 rw[b];clear s c r b;refine(H1.out j K1.out).mono ?_;rintro _ w2 ⟨⟨e1,rfl,q1⟩,k2⟩;have K2:=JE k2;obtain⟨⟨Q,O,N,M⟩,L,K,J,I⟩:=HC.out w2 K2.out;have Q1:=JE q1;clear k2 q1 H1;go_wp2_with fail;refine(H2.out w2 (K1.out.trans K2.out)).mono ?_;rintro _ w3 ⟨⟨e2,rfl,q2⟩,k3⟩;have K3:=JE (K2.out.trans k3);have Q2:=JE q2;clear k3 q2 H2 Q O N M L K J I K2;obtain⟨⟨Q,O,N,M⟩,L,K,J,I⟩:=HC.out w3 K3.out;go_wp2_with fail;refine(H3.out w3 (K1.out.trans K3.out)).mono ?_;rintro _ w4 ⟨⟨e3,rfl,q3⟩,k4⟩;have K4:=JE (K3.out.trans k4);have Q3:=JE q3;clear k4 q3 H3 Q O N M L K J I K3;obtain⟨⟨Q,O,N,M⟩,L,K,J,I⟩:=HC.out w4 K4.out;have q:=JE (K1.out.trans K4.out);have k:=JE (H4.out w4 q.out);clear H4 HC;cases e1
 ·have g:=JE (i.out (.inl λh=>by have:=Q1.out.2 h;cases this))
  clear k;go_wp2_with fail;go_ret;exact⟨Oi g.out,q.out⟩
 ·cases e2
  ·have g:=JE (i.out (.inr (.inl λh=>by have:=Q2.out.2 h;cases this)))
   clear k;go_wp2_with fail;go_ret;exact⟨Oi g.out,q.out⟩
  ·cases e3
   ·have g:=JE (i.out (.inr (.inr (.inl λh=>by have:=Q3.out.2 h;cases this))))
    clear k;go_wp2_with fail;go_ret;exact⟨Oi g.out,q.out⟩
   ·by_cases p:L1=L2
    ·have g:=JE (HY.out (Q1.out.1 rfl) (Q2.out.1 rfl) (Q3.out.1 rfl) p)
     rw[Ke p] at k;clear p;go_wp2_with fail;refine k.out.mono ?_;rintro _ _ ⟨rfl,rfl⟩;go_wp2_with fail;go_ret;exact⟨aK.yes g.out,q.out⟩
    ·have g:=JE (i.out (.inr (.inr (.inr p))))
     rw[Kb p] at k;clear p;go_wp2_with fail;refine k.out.mono ?_;rintro _ _ ⟨rfl,rfl⟩;go_wp2_with fail;go_ret;exact⟨Oi g.out,q.out⟩
theorem cY:(prog.info? 47).map (·.size)=some 5:=by kernel_rfl
theorem gA {o n m l:Option Addr}{e h:Nat}:∀ z∈[Value.slice p f k,.slice o e j,.slice n d i,.slice m c h,.slice l b g],z.oneCell'=true:=by
 intro z a;simp only[Lu,Mw,or_false] at a;rcases a with rfl|rfl|rfl|rfl|rfl <;> rfl
theorem zz {me:Nat}{own:List Sd}(c:aD t K)(f:(ats t (2*i)).kind=1)(a:i≠me)(h:bZ t K (me:Int) own):
  kM t i me<(aC t i K).length/\(aC t i K).getD (kM t i me) 0=coN i me/\∀ j,j<kM t i me->(aC t i K).getD j 0≠coN i me:=by
 have b:=(c.there_iff me).1 h.1;have l:=c.len2;have m:i<2 ^ K:=by have:=Oe (t:=t) (x:=2*i) (by rw[f];decide);omega
 have k:me<2 ^ K:=by have:=Oe (t:=t) (x:=2*me) (by rw[b];decide);omega
 obtain⟨p,o,_,_⟩:=nT c.le m k a;obtain⟨y,r,q⟩:=sn c m b k a h;obtain⟨w,v,u,g⟩:=sr (K:=K) ⟨p,o⟩ (Nr r);have z:=(gy t i K).1;refine⟨by omega,g,λj s e=>?_⟩;have d:=lT t i K;have n:(aC t i K).getD j 0=(aC t i K).getD (kM t i me) 0:=e.trans g.symm;rw[JF,JF,JG (by omega),JG (by omega)] at n;exact Lc.1 d j (kM t i me) (by omega) (by omega) s n
theorem zA (own:List Sd)(info:List UInt8):∀ (who:List Int) (f:List Se),(df own info who f).1.length<=32
 | [],f=>by unfold df;exact JW _
 | y :: l,f=>by
  unfold df
  split
  ·exact zA own info l f.tail
  ·split
   ·exact JW _
   ·split
    ·exact JW _
    ·split
     ·exact JW _
     ·rename_i h
      have:(unR (aZ own y) (aH f 0).half info (aH f 0).b).length=32:=by simpa using h
      show(unR (aZ own y) (aH f 0).half info (aH f 0).b).length<=32
      omega
theorem IX {own:List Sd}(a:j<own.length)(h:inL (aL K 0 i) (aG own j).node=true):cL K i (own.take (j+1))=cL K i (own.take j):=by
 unfold cL;rw[JZ a,MC,<-eV a];have:decide (¬∃ x∈aL K 0 i,(x:Int)=(aG own j).node)=false:=Kb λb=>b ((oG).1 h)
 refine(congrArg _ (List.filter_cons_of_neg ?_)).trans (Lr _);show ¬decide (¬∃ x∈aL K 0 i,(x:Int)=(aG own j).node)=true
 rw[this];decide
theorem IY {own:List Sd}(a:j<own.length)(h:inL (aL K 0 i) (aG own j).node=false):cL K i (own.take (j+1))=cL K i (own.take j)++[aG own j]:=by
 unfold cL;rw[JZ a,MC,<-eV a];have:decide (¬∃ x∈aL K 0 i,(x:Int)=(aG own j).node)=true:=Ke λb=>by
  rw[(oG).2 b] at h;cases h
 exact congrArg _ (List.filter_cons_of_pos (p:=λs:Sd=>decide (¬∃ x∈aL K 0 i,(x:Int)=s.node)) (l:=[]) this)
theorem Ja {own:List Sd}(j:Nat):(cL K i (own.take j)).length<=own.length:=by
 unfold cL;refine Kd (MB _ _) ?_;rw[Ki];omega
theorem Jb {s:List UInt8}(h:s.length<=32):∀ k,(aU s k).length<=32
 | 0=>h
 | k+1=>Nat.le_of_eq (jR _ _)
theorem JC {l:List Nat}{a:Nat}:(l.drop a).getD b 0=l.getD (a+b) 0:=by
 rw[JF,JF,MA]
