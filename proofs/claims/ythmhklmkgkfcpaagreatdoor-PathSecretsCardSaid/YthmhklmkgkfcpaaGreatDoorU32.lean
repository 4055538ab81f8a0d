import Derived.Test.YthmhklmkgkfcpaaGreatDoorU8
import Derived.Test.YthmhklmkgkfcpaaGreatDoorU9
import Derived.Test.YthmhklmkgkfcpaaGreatDoorU10
import Derived.Test.YthmhklmkgkfcpaaGreatDoorU11
import Derived.Test.YthmhklmkgkfcpaaGreatDoorU18
import Derived.Test.YthmhklmkgkfcpaaGreatDoorU19
import Derived.Test.YthmhklmkgkfcpaaGreatDoorU20
import Derived.Test.YthmhklmkgkfcpaaGreatDoorU21
import Derived.Test.YthmhklmkgkfcpaaGreatDoorU23
import Derived.Test.YthmhklmkgkfcpaaGreatDoorU25
import Derived.Test.YthmhklmkgkfcpaaGreatDoorU26
import Derived.Test.YthmhklmkgkfcpaaGreatDoorU28
import Derived.Test.YthmhklmkgkfcpaaGreatDoorU30
import Derived.Test.YthmhklmkgkfcpaaGreatDoorU31
import Derived.Deep.RegionHeld3
import Derived.Deep.AppendLies
set_option linter.unusedVariables false
set_option linter.unusedSimpArgs false
set_option maxHeartbeats 8000000
set_option maxRecDepth 100000
namespace Go.Proofs.YthmhklmkgkfcpaaGreatDoor
open Go.RowKit
theorem aa1 {P:Program}{ops:Array Oper}{rest:List Oper}{o:Oper}{a:Act}{w:World}{Q:Exit→Act→World→Prop}(hgd:o.guard=none)(hd:o.dst=none)(ty:TypeId)(x y:Operand)(ho:o.op=.store ty x y)
  (b f:Nat) (v:Value) (hx:a.eval x=.pointer (some ⟨b,f,none⟩)) (hy:a.eval y=v) (h1:v.oneCell'=true) (ht:w.there b f 1) (hi:(P.info? ty).map (·.size)=some 1)
  (h:∀ w',w'=w.setCells b f [v]→wpList P ops Q rest a w'):wpList P ops Q (o :: rest) a w:=by
 have hc:v.cells=#[v]:=by cases v <;> first | rfl | cases h1
 have:=run_storeCells_cells (P:=P) b f [v] 0 w (fun j hj=>by simpa using (ht j (by simpa using hj)).1) (fun j hj=>by simpa using (ht j (by simpa using hj)).2)
  (fun z hz=>by simp at hz;subst hz;exact h1)
 have hrun:(storeVar ty ⟨b,f,none⟩ v).run P w=.ok () (w.setCells b f [v]):=by
  cases hq:P.info? ty with
  | none=>simp[hq] at hi
  | some i=>
   have hs:i.size=1:=by simpa [hq] using hi
   simp only[Nat.add_zero] at this;simp[storeVar,sizeOf,typeInfo,hq,hc,hs,this]
 refine wpList_plain hgd fun _ hK=>?_
 unfold Oper.wp execOp;simp only[ho,hx,hy,Instr.storeAt,Instr.sureAddr,Sem.run_bind,Sem.run_pure,Result.andThen_ok,hrun];refine hK _ _ ?_;rw[hd];exact h _ rfl
theorem agS:(Tryz.prog.info? 24).map (·.size)=some 1:=by kernel_rfl
theorem ah5:(Tryz.prog.info? 34).map (·.size)=some 1:=by kernel_rfl
theorem aqI {N:Nat}{R:Nat→Value→Value→Value→Prop}(h:∀ i,i<N→∃ p u q,R i p u q):∃ P U Q:Nat→Value,∀ i,i<N→R i (P i) (U i) (Q i):=by
 have h':∀ i,∃ p u q,i<N→R i p u q:=fun i=>by
  by_cases hi:i<N
  ·obtain ⟨p,u,q,hr⟩:=h i hi
   exact ⟨p,u,q,fun _=>hr⟩
  ·exact ⟨undef,undef,undef,fun hh=>absurd hh hi⟩
 exact ⟨fun i=>(h' i).choose,fun i=>(h' i).choose_spec.choose,fun i=>(h' i).choose_spec.choose_spec.choose,fun i hi=>(h' i).choose_spec.choose_spec.choose_spec hi⟩
theorem an8 (t:List Nod)(i:Nat)(hi:i<t.length):t.set i (ats t i)=t:=by
 rw[aep hi];exact List.set_getElem_self hi
theorem acS {P:Program}{ops:Array Oper}{rest:List Oper}{o:Oper}{a:Act}{w:World}{Q:Exit→Act→World→Prop}(hgd:o.guard=none)(hd:o.dst=none)(ty:TypeId)(x y:Operand)(ho:o.op=.store ty x y)
  (g f:Nat) (cs:List Value) (hx:a.eval x=.pointer (some ⟨g,f,none⟩)) (hy:a.eval y=.agg cs.toArray) (hl:cs.length=5) (hone:∀ z∈cs,z.oneCell'=true) (ht:w.there g f 5) (hi:(P.info? ty).map (·.size)=some 5)
  (h:∀ w',w'=w.setCells g f cs→wpList P ops Q rest a w'):wpList P ops Q (o :: rest) a w:=by
 refine wpList_store_mid hgd ty x y ho g f cs.toArray hx hy (by rw[List.size_toArray,hl];exact ht) (by rw[hi,List.size_toArray,hl]) (all_oneCell_toArray hone) ?_;rw[hd];exact h _ rfl
theorem NX.at {e ei:TypeId}{w:World}{B g N c:Nat}{t:List Nod}{P U H:Nat→Value}{S:Nat→Prop}(h:NX e ei w B (.slice (some ⟨g,0,none⟩) N c) t P U H S)(i:Nat)(hi:i<t.length):NAt w g (i*5) (ats t i) (P i) (U i) (H i):=by
 obtain ⟨us,k1,k2,k3⟩:=h.row;have hn:=h.len;subst hn;refine ⟨fun j x hj=>?_,h.ins i hi⟩;have hjl:j<5:=(List.getElem?_eq_some_iff.1 hj).1;rw[k1.cellAt (i*5+j) (by omega),k3 i hi j hjl];exact hj
theorem aao {P:Program}{fn:Func}{p q:Tmp}{ty:TypeId}(h:fn.results=#[.cell p ty,.tmp q])(tmps:Array Value)(w:World)(g:Nat)(t:TypeId)(cs:Array Value)(fr:Nat × Nat)(d:TypeDesc)(v:Value)
  (hp:tmps.getD p undef=.pointer (some ⟨g,0,none⟩)) (hg:w.heap[g]?=some (.cells cs t fr))
  (hu:P.underlying ty=some d) (hd:(match d with | .struct _ | .array _ _=>true | _=>false)=true) (hi:(P.info? ty).map (·.size)=some cs.size) (hq:tmps.getD q undef=v):
  (results fn tmps).run P w=.ok (.tuple #[.agg cs,v]) w:=by
 have hp':tmps[p]?.getD undef=.pointer (some ⟨g,0,none⟩):=by simpa using hp
 have hq':tmps[q]?.getD undef=v:=by simpa using hq
 simp[results,h,hp',hq',asAddr,run_loadVar_row w g t ty cs fr d hg hu hd hi]
theorem aam {P:Program}{ops:Array Oper}{rest:List Oper}{o:Oper}{a:Act}{w:World}{Q:Exit→Act→World→Prop}(hgd:o.guard=none)(hd:o.dst=none)(ty:TypeId)(x y:Operand)(ho:o.op=.store ty x y)
  (g:Nat) (T:TypeId) (cs vs:Array Value) (hx:a.eval x=.pointer (some ⟨g,0,none⟩)) (hy:a.eval y=.agg vs) (hb:Bx w g T cs) (hl:vs.size=cs.size) (hone:∀ z∈vs.toList,z.oneCell'=true) (hi:(P.info? ty).map (·.size)=some vs.size)
  (h:∀ w',Bx w' g T vs→w.grownBy w' (some g)→(∀ w0,Kp w0 w→w0.heap.size≤g→Kp w0 w')→wpList P ops Q rest a w'):wpList P ops Q (o :: rest) a w:=by
 refine wpList_store_mid hgd ty x y ho g 0 vs hx hy (by rw[hl];exact hb.there) hi (all_oneCell_toArray (cs:=vs.toList) hone) ?_;rw[hd];exact h _ (hb.fill vs hl) (aa0 w g 0 vs.toList 0) fun w0 k hg=>k.setCells hg vs.toList 0
theorem an9 (k l:List UInt8):expL k (labI l [] 32) 32=derB k l:=by
 unfold derB labR expR;rw[if_pos (by decide)];rfl
theorem ah6 (vk:Value)(s:ByteArray)(k:List UInt8)(w:World)(hk:Rd w vk k)(hs:s.size≤300)(hkl:k.length≤2000):
  Calls Tryz.prog 32 #[vk,.string s] w fun e w'=>(∃ v,e=.returned v∧Rd w' v (derB k s.data.toList)∧aaN w.heap.size v)∧Kp w w':=by
 have HL:=Lib.hid (aiN vk s k w hk hs hkl);rw[an9] at HL;generalize derB k s.data.toList=D at *;obtain ⟨a,n,c,rfl⟩:=aac hk;clear hk hkl;go_enter Tryz.func32,Tryz.ntmps32;go_wp2_with fail;refine HL.out.mono ?_;rintro _ w1 ⟨⟨v,rfl,r1,nw⟩,k1⟩;have R1:=Lib.hid (And.intro r1 k1);obtain ⟨a1,n1,c1,rfl⟩:=aac r1;clear r1 k1 HL;go_wp2_with fail;go_ret;exact ⟨⟨_,rfl,R1.out.1,nw⟩,R1.out.2⟩
theorem akY (arO:Value)(t:List Nod)(i:Int)(w:World)(hu:NL w arO t)(hl:t.length≤100000):
  Calls Tryz.prog 25 #[arO,.int .i64 i] w fun e w'=>e=.returned (.bool (decide (aar t i)))∧w=w':=by
 have HL:=Lib.hid (ac7 arO t w hu hl);have hlm:=aev (t:=t) hl;obtain ⟨a,c,rfl,p1,s1⟩:=hu.shape;by_cases h0:0≤i
 ·obtain ⟨k,rfl⟩:=Int.eq_ofNat_of_zero_le h0
  by_cases h1:k<lvs t
  ·have hk2:=aix h1
   obtain ⟨b,off,rfl,hb,hc⟩:=hu.at (2*k) hk2;obtain ⟨p,q,h,hn⟩:=hc (2*k) hk2;have c1:=hn.kind;have i2:IntKind.i64.wrap (2*(k:Int))=((2*k:Nat):Int):=by rw[IntWalk.i64_in _ (by omega)];omega
   have i3:((2*k:Nat):Int)<(t.length:Int):=by omega
   have i4:(k:Int)<((lvs t:Nat):Int):=by omega
   have e:decide (aar t (k:Int))=decide ((ats t (2*k)).kind=1):=decide_eq_decide.2 ⟨fun h=>by have:=h.2.2;rwa [Int.toNat_natCast] at this,fun h=>⟨by omega,by omega,by rw[Int.toNat_natCast];exact h⟩⟩;rw[e];generalize (ats t (2*k)).kind=X at *;generalize lvs t=L at *;generalize t.length=N at *;generalize 2*k=K2 at *;clear hc hn hu e hb hk2;go_enter Tryz.func25,Tryz.ntmps25;go_wp2_with fail;refine HL.out.mono ?_;rintro _ _ ⟨rfl,rfl⟩;by_cases hx:X=1
   ·subst hx
    go_wp2_with fail;go_ret;exact ⟨rfl,rfl⟩
   ·have hxb:(X==1)=false:=beq_eq_false_iff_ne.2 hx
    have HD:=Lib.hid (decide_eq_false hx);go_wp2_with fail;go_ret;exact ⟨by rw[HD.out] <;> first | rfl | simp[hxb],rfl⟩
  ·have e:decide (aar t (k:Int))=false:=decide_eq_false fun h=>by have:=h.2.1;omega
   have i4:¬(k:Int)<((lvs t:Nat):Int):=by omega
   rw[e];generalize lvs t=L at *;generalize t.length=N at *;clear hu e;go_enter Tryz.func25,Tryz.ntmps25;go_wp2_with fail;refine HL.out.mono ?_;rintro _ _ ⟨rfl,rfl⟩;go_wp2_with fail;go_ret;exact ⟨rfl,rfl⟩
 ·have e:decide (aar t i)=false:=decide_eq_false fun h=>h0 h.1
  rw[e];generalize t.length=N at *;clear hu e HL hlm hl;go_enter Tryz.func25,Tryz.ntmps25;go_wp2_with fail;go_ret;exact ⟨rfl,rfl⟩
theorem akZ {K i m:Nat}(h:m<K):(aa2 K 0 i).getD m 0=nd m (sq (i / 2 ^ m)):=by
 unfold aa2;rw[List.getD_eq_getElem?_getD,List.getElem?_map,List.getElem?_range (by omega)];simp
theorem aok {K i m:Nat}(h:m<K):(aah K 0 i).getD m 0=nd (m+1) (i / 2 ^ (m+1)):=by
 unfold aah;rw[List.getD_eq_getElem?_getD,List.getElem?_map,List.getElem?_range (by omega)];simp[Nat.add_comm]
theorem ae1 (K i:Nat):(aah K 0 i).length=K:=by unfold aah;simp
theorem ak0 (K i:Nat):(aa2 K 0 i).length=K:=by unfold aa2;simp
def Sly (w:World)(g:Nat):Prop:=∃ (T:TypeId) (cs:Array Value),Bx w g T cs∧∀ (j:Nat) (z:Value),cs[j]?=some z→∃ a n c,z=Value.slice a n c
theorem sly5 {w:World}{g:Nat}{T:TypeId}{a1 a2 a3 a4 a5:Option Addr}{n1 n2 n3 n4 n5 c1 c2 c3 c4 c5:Nat}(h:Bx w g T #[.slice a1 n1 c1,.slice a2 n2 c2,.slice a3 n3 c3,.slice a4 n4 c4,.slice a5 n5 c5]):Sly w g:=
 ⟨T,_,h,fun j z hj=>by
  match j with
  | 0=>cases hj;exact ⟨_,_,_,rfl⟩
  | 1=>cases hj;exact ⟨_,_,_,rfl⟩
  | 2=>cases hj;exact ⟨_,_,_,rfl⟩
  | 3=>cases hj;exact ⟨_,_,_,rfl⟩
  | 4=>cases hj;exact ⟨_,_,_,rfl⟩
  | j+5=>simp at hj⟩
theorem Sly.no {w:World}{g:Nat}(h:Sly w g){x:Addr}{k:IntKind}{n:Int}(hx:x.block=g)(hc:w.cell? x=some (.int k n)):False:=by
 obtain ⟨T,cs,hb,hz⟩:=h;subst hx;unfold World.cell? at hc;have hb':w.heap[x.block]?=some (.cells cs T (0,0)):=hb;rw[hb'] at hc;dsimp only at hc
 split at hc
 ·cases hc
 ·obtain ⟨a,n,c,e⟩:=hz _ _ hc
  cases e
theorem Rd.sly {w:World}{g:Nat}{v:Value}{l:List UInt8}(h:Rd w v l)(hs:Sly w g):Free (fun k=>k=g) v:=fun x n c e h0 hk=>by
 obtain ⟨a',c',e',h1,h2,h3,h4⟩:=h;rw[e] at e';simp only[Value.slice.injEq] at e';obtain ⟨rfl,rfl,rfl⟩:=e';exact hs.no (by rw[aaJ];exact hk) (h4 x rfl 0 h0)
theorem RI.sly {w:World}{g:Nat}{v:Value}{l:List Int}(h:RI w v l)(hs:Sly w g):Free (fun k=>k=g) v:=fun x n c e h0 hk=>by
 obtain ⟨a',c',e',h1,h2,h3,h4⟩:=h;rw[e] at e';simp only[Value.slice.injEq] at e';obtain ⟨rfl,rfl,rfl⟩:=e';have hc:=h4 x rfl 0 h0;rw[List.getElem_map] at hc;exact hs.no (by rw[aaJ];exact hk) hc
theorem NL.sly {w w':World}{g:Nat}{v:Value}{t:List Nod}(h:NL w v t)(hs:Sly w g)(st:Step (fun k=>k=g) w w'):NL w' v t:=by
 obtain ⟨a,c,e,h1,h2,h3,h4⟩:=h;refine ⟨a,c,e,h1,h2,h3,fun h0=>?_⟩;obtain ⟨b,off,ha,hb,hi⟩:=h4 h0;obtain ⟨p0,u0,h0',hn0⟩:=hi 0 h0;have hne:b≠g:=fun e=>hs.no (x:=⟨b,off+0*5,none⟩) e hn0.kind
 refine ⟨b,off,ha,Nat.lt_of_lt_of_le hb st.size,fun i hi2=>?_⟩;obtain ⟨p,u,q,hn⟩:=hi i hi2;exact ⟨p,u,q,fun j v hj=>st.cell (hn.1 j v hj) hne,hn.2.pub.stepF st (hn.2.pub.sly hs),hn.2.un.stepF st (hn.2.un.sly hs),hn.2.hash.stepF st (hn.2.hash.sly hs)⟩
theorem ag3 {w:World}{g:Nat}{T:TypeId}{a0 a1 a2 a3 a4:Value}(hb:Bx w g T #[a0,a1,a2,a3,a4])(v0 v1 v2 v3 v4:Value):
  Bx (((((w.setCell ⟨g,0,none⟩ v0).setCell ⟨g,1,none⟩ v1).setCell ⟨g,2,none⟩ v2).setCell ⟨g,3,none⟩ v3).setCell ⟨g,4,none⟩ v4) g T #[v0,v1,v2,v3,v4]
  ∧ Step (fun k=>k=g) w (((((w.setCell ⟨g,0,none⟩ v0).setCell ⟨g,1,none⟩ v1).setCell ⟨g,2,none⟩ v2).setCell ⟨g,3,none⟩ v3).setCell ⟨g,4,none⟩ v4)
  ∧ ∀ w0,Kp w0 w→w0.heap.size≤g→Kp w0 (((((w.setCell ⟨g,0,none⟩ v0).setCell ⟨g,1,none⟩ v1).setCell ⟨g,2,none⟩ v2).setCell ⟨g,3,none⟩ v3).setCell ⟨g,4,none⟩ v4):=by
 have h2:=aa0 w g 0 [v0,v1,v2,v3,v4] 0;exact ⟨hb.fill #[v0,v1,v2,v3,v4] rfl,⟨h2.os,h2.tape,h2.output,h2.size,fun q hq hn=>h2.block q hq fun e=>hn (by cases e;rfl)⟩,fun w0 k hg=>k.setCells hg [v0,v1,v2,v3,v4] 0⟩
theorem NL.node {w:World}{v:Value}{t:List Nod}(h:NL w v t){x:Nat}(hx:x<t.length):
  ∃ b off c p arO q,v=.slice (some ⟨b,off,none⟩) t.length c∧NAt w b (off+x*5) (ats t x) p arO q:=by
 obtain ⟨a,c,rfl,h1,h2⟩:=h.shape;obtain ⟨b,off,rfl,_,hi⟩:=h.at x hx;obtain ⟨p,arO,q,hn⟩:=hi x hx;exact ⟨b,off,c,p,arO,q,rfl,hn⟩
theorem aaZ.lt {t:List Nod}{K:Nat}(h:aaZ t K){j q:Nat}(hj:j≤K)(hq:q<2 ^ (K - j)):nd j q<t.length∧nd j q≤2046:=by
 have h1:=ae8 hj hq;have h2:=aa4 h.le hj hq;rw[h.len];exact ⟨h1,h2.1⟩
theorem arz {K j q:Nat}(hj:j+1≤K)(hq:q<2 ^ (K - (j+1))):2*q<2 ^ (K - j)∧2*q+1<2 ^ (K - j):=by
 have e:K - j=(K - (j+1))+1:=by omega
 rw[e,aaj];omega
theorem aaZ.at {t:List Nod}{K:Nat}(h:aaZ t K){x:Nat}(hx:x<t.length):∃ j q,x=nd j q∧j≤K∧q<2 ^ (K - j):=ahh K x (by rw[← h.len];exact hx)
theorem alI (p:List St):∀ (l:List Nat) (k x:Nat) (t:List Nod),setS p k (l++[x]) t=(setS p k l t).set x ⟨2,0,(stAt p (k+l.length)).pub,[],[]⟩
 | [],k,x,t=>rfl
 | y :: l,k,x,t=>by
  show setS p (k+1) (l++[x]) _=(setS p (k+1) l _).set x _
  rw[alI p l (k+1) x,show k+1+l.length=k+(y :: l).length by simp;omega]
theorem aqS (p:List St)(l:List Nat)(t:List Nod){j:Nat}(h:j<l.length):setS p 0 (l.take (j+1)) t=(setS p 0 (l.take j) t).set (l.getD j 0) ⟨2,0,(stAt p j).pub,[],[]⟩:=by
 rw[List.take_succ_eq_append_getElem h,alI,List.length_take,Nat.min_eq_left (by omega),Nat.zero_add,List.getD_eq_getElem?_getD,List.getElem?_eq_getElem h];rfl
theorem aom {p:List St}{t:List Nod}{K i:Nat}(hr:aab t K)(hT:aaZ t K)(hk:(ats t (2*i)).kind=1){pub:List UInt8}(hp:pub.length=32)(hs:∀ a,a<(aaa t i K).length→(stAt p a).pub.length=32):
  aaZ (setS p 0 (aaa t i K) (updT t i pub)) K:=by
 have hlt:=aab.lt_of (t:=t) (x:=2*i) (by rw[hk];decide);have hl2:=hr.len2;have hi:i<2 ^ K:=by omega
 have hA:=hr.updAt hi pub;have hL:=aab.updLen (t:=t) i pub;have hm:∀ x∈aaa t i K,x<(updT t i pub).length:=fun x hx=>by rw[hL,hr.len];exact aby hi (aay hx)
 have hTU:aaZ (updT t i pub) K:=by
  refine ⟨hr.le,by rw[hL,hr.len],fun y=>?_,fun y hy=>?_⟩
  ·rw[hA]
   split
   ·have hn:=(hT.node (2*i)).name
    exact ⟨.inr (.inl rfl),hn,by show pub.length≤40;omega,Nat.zero_le _,Nat.zero_le _,fun i hi=>by cases hi⟩
   ·split
    ·exact adj.blank
    ·exact hT.node y
  ·rw[hA] at hy
   split at hy
   ·cases hy
   ·split at hy
    ·cases hy
    ·exact hT.par y hy
 refine hTU.over (aeT _ _ _ _) fun y=>?_
 by_cases hy:y∈aaa t i K
 ·obtain ⟨a,ha,rfl⟩:=List.getElem_of_mem hy
  have e:=aiA p (aaa t i K) 0 (updT t i pub) (abo t i K) hm a ha;rw[Nat.zero_add,List.getD_eq_getElem?_getD,List.getElem?_eq_getElem ha] at e;exact .inr ⟨aba (aay hy),.inr ⟨_,hs a ha,e⟩⟩
 ·exact .inl (aeU _ _ _ _ _ hm hy)
def hldS (own:Sd→Prop)(s:List UInt8)(xs:List Nat)(n:Nat):Sd→Prop:=fun y=>own y∨∃ a,a<n∧y=⟨((xs.getD a 0:Nat):Int),aaL s a⟩
theorem ajX {own:Sd→Prop}{s:List UInt8}{xs:List Nat}(y:Sd):hldS own s xs 0 y↔own y:=by
 unfold hldS;constructor
 ·rintro (h | ⟨a,h,_⟩)
  ·exact h
  ·omega
 ·exact .inl
theorem ajY {own:Sd→Prop}{s:List UInt8}{xs:List Nat}{n:Nat}(hn:xs.Nodup)(hd:∀ a,own a→∀ x∈xs,a.node≠((x:Nat):Int))(h:n<xs.length)(y:Sd):
  hldS own s xs (n+1) y↔(y=⟨((xs.getD n 0:Nat):Int),aaL s n⟩∨(hldS own s xs n y∧y.node≠((xs.getD n 0:Nat):Int))):=by
 have hg:∀ a,(ha:a<xs.length)→xs.getD a 0=xs[a]:=fun a ha=>by rw[List.getD_eq_getElem?_getD,List.getElem?_eq_getElem ha];rfl
 unfold hldS;constructor
 ·rintro (h1 | ⟨a,h1,rfl⟩)
  ·refine .inr ⟨.inl h1,?_⟩
   rw[hg n h];exact hd y h1 _ (List.getElem_mem h)
  ·by_cases e:a=n
   ·subst e;exact .inl rfl
   ·refine .inr ⟨.inr ⟨a,by omega,rfl⟩,?_⟩
    rw[hg n h,hg a (by omega)];intro e2;have e3:xs[a]'(by omega)=xs[n]:=by dsimp only at e2;omega
    exact e ((List.getElem_inj hn).1 e3)
 ·rintro (h1 | ⟨h1 | ⟨a,h1,h2⟩,_⟩)
  ·exact .inr ⟨n,by omega,h1⟩
  ·exact .inl h1
  ·exact .inr ⟨a,by omega,h2⟩
theorem ajZ {own:List Sd}{s:List UInt8}{xs:List Nat}(hn:xs.Nodup)(h:srt own)(hd:∀ a∈own,∀ x∈xs,a.node≠((x:Nat):Int)){r:List Sd}(hr:srt r)
 (hm:∀ y,y∈r↔hldS (fun y=>y∈own) s xs xs.length y):r=ownS own s xs:=apj hn h hd hr hm
open Classical in
noncomputable def ag4 (own:List Sd) (xs:List Nat):List Sd:=own.filter fun s=>decide (¬∃ x∈xs,((x:Nat):Int)=s.node)
theorem aon (own:List Sd):ag4 own []=own:=by
 unfold ag4;rw[List.filter_eq_self];intro a _;simp
theorem ad8 {own:List Sd}{xs:List Nat}{y:Sd}:y∈ag4 own xs↔y∈own∧∀ x∈xs,((x:Nat):Int)≠y.node:=by
 unfold ag4;rw[List.mem_filter];simp
theorem amH {own:List Sd}{xs:List Nat}{n:Nat}(h:n<xs.length)(y:Sd):y∈ag4 own (xs.take (n+1))↔(y∈ag4 own (xs.take n)∧y.node≠((xs.getD n 0:Nat):Int)):=by
 rw[ad8,ad8,List.take_succ_eq_append_getElem h,List.getD_eq_getElem?_getD,List.getElem?_eq_getElem h];constructor
 ·rintro ⟨h1,h2⟩
  exact ⟨⟨h1,fun x hx=>h2 x (List.mem_append.2 (.inl hx))⟩,fun e=>h2 _ (List.mem_append.2 (.inr (List.mem_singleton.2 rfl))) e.symm⟩
 ·rintro ⟨⟨h1,h2⟩,h3⟩
  refine ⟨h1,fun x hx=>?_⟩;rcases List.mem_append.1 hx with hx | hx
  ·exact h2 x hx
  ·rw[List.mem_singleton] at hx
   subst hx;exact fun e=>h3 e.symm
theorem aoo {own:List Sd}(h:srt own)(xs:List Nat):srt (ag4 own xs):=List.Pairwise.sublist List.filter_sublist h
theorem adc {own:List Sd}{K i:Nat}:ag4 own (aah K 0 i)=afW K i own:=rfl
def clrS (l:List Nat)(t:List Nod):List Nod:=l.foldl (fun o x=>o.set x aan) t
theorem aiY:∀ (l:List Nat) (t:List Nod),(clrS l t).length=t.length
 | [],_=>rfl
 | x :: l,t=>(aiY l (t.set x aan)).trans (List.length_set ..)
theorem aop {l:List Nat}{j:Nat}(h:j<l.length)(t:List Nod):clrS (l.take (j+1)) t=(clrS (l.take j) t).set (l.getD j 0) aan:=by
 unfold clrS;rw[List.take_succ_eq_append_getElem h,List.foldl_append,List.getD_eq_getElem?_getD,List.getElem?_eq_getElem h];rfl
theorem aoq:∀ (l:List Nat) (t:List Nod) (y:Nat),(∀ x∈l,x<t.length)→ats (clrS l t) y=if y∈l then aan else ats t y
 | [],_,_,_=>rfl
 | x :: l,t,y,h=>by
  show ats (clrS l (t.set x aan)) y=_
  rw[aoq l _ y (fun z hz=>by rw[List.length_set];exact h z (by simp[hz])),abk _ _ _ _ (h x (by simp))]
  by_cases e1:y∈l
  ·rw[if_pos e1,if_pos (by simp[e1])]
  ·rw[if_neg e1]
   by_cases e2:y=x
   ·rw[if_pos e2,if_pos (by simp[e2])]
   ·rw[if_neg e2,if_neg (by simp[e1,e2])]
theorem apF {t:List Nod}{K i:Nat}(hr:aab t K)(hi:i<2 ^ K)(pub:List UInt8):clrS (aah K 0 i) (t.set (2*i) (aag (ats t (2*i)).name pub))=updT t i pub:=by
 have hl2:=hr.len2;have hlt:2*i<t.length:=by omega
 refine am7 (by rw[aiY,List.length_set,aab.updLen]) fun y=>?_
 rw[aoq _ _ _ (fun x hx=>by rw[List.length_set,hr.len];exact aby hi hx),abk _ _ _ _ hlt,hr.updAt hi];by_cases e:y=2*i
 ·subst e
  rw[if_neg (fun h=>by have:=aba h;omega),if_pos rfl,if_pos rfl]
 ·rw[if_neg e,if_neg e]
theorem amI {p:List St}{t:List Nod}{K i:Nat}(hr:aab t K)(hk:(ats t (2*i)).kind=1){pub:List UInt8}(hp:pub.length=32)(hs:∀ a,a<(aaa t i K).length→(stAt p a).pub.length=32):
  aab (setS p 0 (aaa t i K) (updT t i pub)) K:=by
 have hlt:=aab.lt_of (t:=t) (x:=2*i) (by rw[hk];decide);have hl2:=hr.len2;have hi:i<2 ^ K:=by omega
 have hL:=aab.updLen (t:=t) i pub;have hm:∀ x∈aaa t i K,x<(updT t i pub).length:=fun x hx=>by rw[hL,hr.len];exact aby hi (aay hx)
 refine (hr.upd hk hp).over (aeT _ _ _ _) fun y=>?_
 by_cases hy:y∈aaa t i K
 ·obtain ⟨a,ha,rfl⟩:=List.getElem_of_mem hy
  have e:=aiA p (aaa t i K) 0 (updT t i pub) (abo t i K) hm a ha;rw[Nat.zero_add,List.getD_eq_getElem?_getD,List.getElem?_eq_getElem ha] at e;exact .inr ⟨aba (aay hy),.inr ⟨_,hs a ha,e⟩⟩
 ·exact .inl (aeU _ _ _ _ _ hm hy)
theorem aft (l:List Int)(g:List Int)(i:Nat)(h:i<l.length):
  (l.take (i+1)).filter (fun i=>decide (i∉g))=(l.take i).filter (fun i=>decide (i∉g))++(if l.getD i 0∈g then [] else [l.getD i 0]):=by
 rw[List.take_add_one,List.getElem?_eq_getElem h,List.filter_append,List.getD_eq_getElem?_getD,List.getElem?_eq_getElem h];simp only[Option.toList_some,Option.getD_some];by_cases hx:l[i]∈g
 ·rw[if_pos hx];simp[hx]
 ·rw[if_neg hx];simp[hx]
theorem ag5 (g:List Int)(i:Int):2*i∈g.map (2*·)↔i∈g:=by
 constructor
 ·intro h
  obtain ⟨j,hj,e⟩:=List.mem_map.1 h;have:j=i:=by omega
  exact this▸hj
 ·exact fun h=>List.mem_map.2 ⟨i,h,rfl⟩
theorem ag6 (v vc:Value)(n:Nod)(x:Int)(g:List Int)(w:World)(hv:NV w v n)(hn:adj n)(hc:Cnt w vc g)(hx:0≤x∧x≤1000000):
  Calls Tryz.prog 208 #[v,.int .i64 x,vc] w fun e w'=>(∃ r,e=.returned r∧NV w' r (if x∈g.map (2*·) then aan else afg n g))∧Kp w w':=by
 have S:=ad0;obtain ⟨cb,rfl,hcl⟩:=hc.call;have HCL:=Lib.hid hcl;obtain ⟨p,arO,h,rfl,ip,iu,ih⟩:=hv;have HIN:=Lib.hid (And.intro ip (And.intro iu ih));obtain ⟨ap,np,cp,rfl⟩:=aaz ip;obtain ⟨ah,nh,ch,rfl⟩:=aaz ih;obtain ⟨au,cu,rfl,pu,_⟩:=iu.shape;simp only[nodC];have hun:=hn.un;have hunl:=hn.unl;obtain ⟨WB,hWB⟩:∃ WB,(w.alloc (.cells #[.int .i64 n.kind,.int .i64 n.name,.slice ap np cp,.slice au n.un.length cu,.slice ah nh ch] 81)).alloc (.cells #[.int .i64 0,.int .i64 0,.slice none 0 0,.slice none 0 0,.slice none 0 0] 81)=WB:=⟨_,rfl⟩;have HWB:=Lib.hid hWB;have hb1:Bx WB w.heap.size 81 #[.int .i64 n.kind,.int .i64 n.name,.slice ap np cp,.slice au n.un.length cu,.slice ah nh ch]:=by rw[← hWB];exact (Bx.new _ _ _).kp ((Kp.refl _).alloc _)
 have hb2:Bx WB (w.heap.size+1) 81 #[.int .i64 0,.int .i64 0,.slice none 0 0,.slice none 0 0,.slice none 0 0]:=by
  rw[← hWB];have:=Bx.new (w.alloc (.cells #[.int .i64 n.kind,.int .i64 n.name,.slice ap np cp,.slice au n.un.length cu,.slice ah nh ch] 81)) 81 #[.int .i64 0,.int .i64 0,.slice none 0 0,.slice none 0 0,.slice none 0 0];rwa [World.size_alloc] at this
 have hkw:Kp w WB:=by rw[← hWB];exact ((Kp.refl _).alloc _).alloc _
 have hsz:WB.heap.size=w.heap.size+2:=by rw[← hWB];simp
 have HB1:=Lib.hid hb1;have HB2:=Lib.hid hb2;have HZ:=Lib.hid (And.intro hkw hsz);clear hWB hb1 hb2 hkw hsz hc hcl ip ih hn;by_cases hin:x∈g.map (2*·)
 ·rw[if_pos hin]
  have hcx:=Lib.hid (HCL.out x WB HZ.out.1 (by omega));rw[decide_eq_true hin] at hcx;clear hin hx HCL HIN iu hun hunl;go_enter Tryz.func208,Tryz.ntmps208;go_wp2_with fail;rw[HWB.out];refine hcx.out.mono ?_;rintro _ w2 ⟨rfl,k2⟩;have HB:=Lib.hid (HB2.out.kp k2);have HK2:=Lib.hid (HZ.out.1.trans k2);have HTH:=Lib.hid (HB.out.there);have hone:=af4 (n:=aan) (NIn.mk (aaP w2) (RI.nil w2) (aaP w2));clear k2 hcx HB1 HB2 HWB;go_wp2_with (refine acS rfl rfl 81 (.tmp 6) (.tmp 14) rfl (w.heap.size+1) 0 [.int .i64 0,.int .i64 0,.slice none 0 0,.slice none 0 0,.slice none 0 0] rfl rfl rfl hone HTH.out acF ?_;intro W3 hW3)
  have hb3:Bx W3 (w.heap.size+1) 81 #[.int .i64 0,.int .i64 0,.slice none 0 0,.slice none 0 0,.slice none 0 0]:=by rw[hW3];exact HB.out.fill #[.int .i64 0,.int .i64 0,.slice none 0 0,.slice none 0 0,.slice none 0 0] rfl
  have hk3:Kp w W3:=by rw[hW3];exact HK2.out.setCells (by omega) _ _
  refine bodyPost_ret (results_cell_row rfl _ _ (w.heap.size+1) _ _ (0,0) _ rfl hb3 Tryz.underlying81 rfl acF) rfl ?_;exact ⟨⟨_,rfl,NV.blank _⟩,hk3⟩
 ·rw[if_neg hin]
  have hcx:=Lib.hid (HCL.out x WB HZ.out.1 (by omega));rw[decide_eq_false hin] at hcx;obtain ⟨UL,hUL⟩:∃ UL,n.un.length=UL:=⟨_,rfl⟩;have HFT:=Lib.hid (aft n.un g);obtain ⟨F,hF⟩:∃ F:Nat→List Int,F=fun i=>(n.un.take i).filter (fun i=>decide (i∉g)):=⟨_,rfl⟩
  have hFi:∀ i,(n.un.take i).filter (fun i=>decide (i∉g))=F i:=fun i=>by rw[hF]
  have HFE:Hid (afg n g=⟨n.kind,n.name,n.pub,F UL,n.hash⟩):=by
   unfold Hid afg;rw[hF,← hUL];simp only[List.take_length]
  have HFL:Hid (∀ i,(F i).length≤100):=fun i=>by rw[hF];exact Nat.le_trans (List.length_filter_le _ _) (by rw[List.length_take];omega)
  have HF0:Hid (F 0=[]):=by rw[hF];rfl
  have HUB:Hid (∀ i,i<UL→0≤n.un.getD i 0∧n.un.getD i 0≤1023):=fun i hi=>by
   have hm:n.un.getD i 0∈n.un:=by rw[List.getD_eq_getElem?_getD,List.getElem?_eq_getElem (by omega)];exact List.getElem_mem _
   exact hun _ hm
  have HUN:Hid (∀ W,Kp w W→RI W (.slice au UL cu) n.un):=fun W hW=>by rw[← hUL];exact iu.kp hW
  rw[HFE.out];rw[hUL] at HWB HB1 HFT hunl pu HIN ⊢;simp only[hFi] at HFT;have HMT:=Lib.hid (ag5 g);clear hin hx iu hun hUL hF hFi HFE;go_enter Tryz.func208,Tryz.ntmps208;go_wp2_with fail;rw[HWB.out];refine hcx.out.mono ?_;rintro _ w2 ⟨rfl,k2⟩;have K2:=Lib.hid k2;have c3:=(HB1.out.kp k2).cell 3;simp only[List.getElem?_toArray,List.getElem?_cons_zero,List.getElem?_cons_succ] at c3;clear k2 hcx HWB;go_wp2_with fail;clear c3;go_loopw[7,18] (fun v x wr=>∃ i:Nat,i≤UL∧x=.int .i64 (i:Int)∧OI 3 wr WB.heap.size v (F i)∧Kp WB wr) (fun _ x _=>(UL - (intOf x).toNat))
  case atStart=>exact ⟨0,Nat.zero_le _,rfl,by rw[HF0.out];exact OI.nil _ _ _,K2.out⟩
  case round=>
   obtain ⟨i,hi,rfl,ho,hkp⟩:=hrel;have KR:=Lib.hid hkp;have HO:=Lib.hid ho;by_cases hlt:i<UL
   ·obtain ⟨gu,ou,rfl,_,hcu⟩:=(HUN.out _ (HZ.out.1.trans hkp)).at i hlt
    have cu2:=hcu i hlt;have i1:IntKind.i64.wrap ((i:Int)+1)=(i:Int)+1:=IntWalk.i64_in _ (by omega);have i3:(i:Int)<(UL:Int):=by omega
    have HFTi:=Lib.hid (HFT.out i (by have:=HUN.out _ (Kp.refl _);obtain ⟨_,_,e,_⟩:=this.shape;simp only[Value.slice.injEq] at e;omega));have hub:=HUB.out i hlt;have HFLi:=HFL.out i;generalize n.un.getD i 0=Y at *;have i2:IntKind.i64.wrap (2*Y)=2*Y:=IntWalk.i64_in _ (by omega);have hcy:=Lib.hid (HCL.out (2*Y) wr (HZ.out.1.trans hkp) (by omega));have hmt:=HMT.out Y;clear hcu hkp ho HFT HUN HFL HF0 HUB HCL HMT;by_cases hy:Y∈g
    ·rw[decide_eq_true (hmt.2 hy)] at hcy
     rw[if_pos hy,List.append_nil] at HFTi;clear hy hmt;go_wp2_with fail;refine hcy.out.mono ?_;rintro _ w3 ⟨rfl,k3⟩;have KE:=Lib.hid (And.intro (HO.out.kp k3) (KR.out.trans k3));clear k3 hcy HO KR;go_wp2_with fail;go_roundw
     case rel=>exact ⟨i+1,by omega,by go_num,by rw[HFTi.out];exact KE.out.1,KE.out.2⟩
     case measure=>simp[intOf];omega
    ·rw[decide_eq_false (fun h=>hy (hmt.1 h))] at hcy
     rw[if_neg hy] at HFTi;clear hy hmt;go_wp2_with fail;refine hcy.out.mono ?_;rintro _ w3 ⟨rfl,k3⟩;have KE:=Lib.hid (And.intro (HO.out.kp (k3.alloc (.cells #[.int .i64 Y] 3))) (KR.out.trans (k3.alloc (.cells #[.int .i64 Y] 3))));clear k3 hcy HO KR;go_wp2_with (at_builtin;refine aaw S rfl _ _ rfl WB.heap.size _ (F i) rfl KE.out.1 _ [Y] rfl (RI.lit w3 3 #[.int .i64 Y] [Y] 1 rfl (by omega) rfl).ri (by simp;omega) KE.out.2.size ?_;intro v9 w9 o9 g9;have K9:=Lib.hid (Kp.grown KE.out.2 g9 (fun k hk=>(OI.lt KE.out.1 k hk).1)))
     go_roundw
     case rel=>exact ⟨i+1,by omega,by go_num,by rw[HFTi.out];exact o9,K9.out⟩
     case measure=>simp[intOf];omega
   ·obtain rfl:i=UL:=by omega
    have hle:¬(i:Int)<(i:Int):=by omega
    obtain ⟨av,nv,cv,rfl⟩:=ho.ri.sl;obtain ⟨hz1,hz2⟩:=HZ.out;have HBW:=Lib.hid (HB1.out.kp hkp);have HBV:=Lib.hid (HB2.out.kp hkp);have HKW:=Lib.hid (hz1.trans hkp);have HTH:Hid (wr.there w.heap.size 3 1):=fun j hj=>by have:=HBW.out.there (3+j) (by simp;omega);rwa [Nat.zero_add] at this
    clear hkp ho HFT HUN HFL HF0 HUB HCL HMT HB1 HB2 KR hi hlt K2;have hbv4:∀ W4,W4=wr.setCells w.heap.size 3 [.slice av nv cv]→Bx W4 w.heap.size 81 #[.int .i64 n.kind,.int .i64 n.name,.slice ap np cp,.slice av nv cv,.slice ah nh ch]∧Bx W4 (w.heap.size+1) 81 #[.int .i64 0,.int .i64 0,.slice none 0 0,.slice none 0 0,.slice none 0 0]∧RI W4 (.slice av nv cv) (F i)∧(Kp w W4∧∀ g',(Value.slice av nv cv).ownBlock=some g'→w.heap.size+2≤g'):=fun W4 e=>by
     have hgr:=aa0 wr w.heap.size 0 [.slice av nv cv] 3;have hlt:∀ g',(Value.slice av nv cv).ownBlock=some g'→w.heap.size+2≤g':=fun g' hg'=>by have:=(OI.lt HO.out g' hg').1;omega
     rw[e];exact ⟨HBW.out.set 3 (.slice av nv cv),HBV.out.grown hgr (by simp),(HO.out.grown9 hgr (fun g' hg' e=>by have:=hlt g' hg';simp at e;omega)).ri,HKW.out.setCells (Nat.le_refl _) _ _,hlt⟩
    have HB4:=Lib.hid hbv4;clear hbv4;go_wp2_with (first
     | (refine aa1 rfl rfl 34 (.tmp 32) (.tmp 31) rfl w.heap.size 3 (.slice av nv cv) rfl rfl rfl HTH.out ah5 ?_;intro W4 hW4;obtain ⟨hb4,hv4,hr4,hk4,hl4⟩:=HB4.out W4 hW4;have c0:=hb4.cell 0;have c1:=hb4.cell 1;have c2:=hb4.cell 2;have c3:=hb4.cell 3;have c4:=hb4.cell 4;simp only[List.getElem?_toArray,List.getElem?_cons_zero,List.getElem?_cons_succ] at c0 c1 c2 c3 c4;have HV4:=Lib.hid hv4;have HR4:=Lib.hid hr4;have HK4:=Lib.hid hk4;have HL4:=Lib.hid hl4;have HTH4:=Lib.hid hv4.there;clear hW4 hb4 hv4 hr4 hk4 hl4)
     | (refine acS rfl rfl 81 (.tmp 6) (.tmp 33) rfl (w.heap.size+1) 0 [.int .i64 n.kind,.int .i64 n.name,.slice ap np cp,.slice av nv cv,.slice ah nh ch] rfl rfl rfl (by intro z hz;simp only[List.mem_cons,List.not_mem_nil,or_false] at hz;rcases hz with rfl | rfl | rfl | rfl | rfl <;> rfl) HTH4.out acF ?_;intro W5 hW5))
    subst hW5;have hb5:=HV4.out.fill #[.int .i64 n.kind,.int .i64 n.name,.slice ap np cp,.slice av nv cv,.slice ah nh ch] rfl;have hk5:=HK4.out.setCells (b:=w.heap.size+1) (by omega) [.int .i64 n.kind,.int .i64 n.name,.slice ap np cp,.slice av nv cv,.slice ah nh ch] 0;have hap:aap (.slice (some ⟨w.heap.size+1,0,none⟩) 0 0) (.slice av nv cv):=fun g' hg' y n c e h0 he=>by
     have h2:g'=w.heap.size+1:=by cases hg';rfl
     have h3:=HL4.out y.block (by rw[e];rfl);omega
    have hr5:=HR4.out.grown9 (v:=.slice (some ⟨w.heap.size+1,0,none⟩) 0 0) (aa0 W4 (w.heap.size+1) 0 [.int .i64 n.kind,.int .i64 n.name,.slice ap np cp,.slice av nv cv,.slice ah nh ch] 0) hap;refine bodyPost_ret (results_cell_row rfl _ _ (w.heap.size+1) _ _ (0,0) _ rfl hb5 Tryz.underlying81 rfl acF) rfl ?_;exact ⟨⟨_,rfl,⟨_,_,_,rfl,⟨HIN.out.1.kp hk5,hr5,HIN.out.2.2.kp hk5⟩⟩⟩,hk5⟩
section
variable {α : Type} {S : Sh α} {Z : Nat → Prop} {P : Program} {w : World} {t e : TypeId}
theorem ahC (K:SK P t e S.k){ops:Array Oper}{o:Oper}{a:Act}{K':Act→World→Prop}{Q:Exit→Act→World→Prop}{E:Prop}(hg:o.guard=none)(s x:Operand)
  (ho:o.op=.call { callee:=.builtin .append,args:=#[s,x],argTypes:=#[t,t] })
  (B:Nat) (v:Value) (ts:List α) (hs:a.eval s=v) (hown:GZ S e Z w B v ts) (u:Value) (y:α) (hx:a.eval x=u) (hu:SE S (fun g=>some g=v.ownBlock∨Z g) w u [y]) (hlen:ts.length+1≤1000000) (hbase:B≤w.heap.size)
  (h:∀ v' w',GZ S e Z w' B v' (ts++[y])→w.grownBy w' v.ownBlock→(v'.ownBlock=v.ownBlock∨v'.ownBlock=some w.heap.size)→K' (a.put o.dst v') w'):if Region.wanted o (yielded ops a.tmps)=true then Oper.wp P o a w K' Q else E:=by
 have hw:Region.wanted o (yielded ops a.tmps)=true:=by simp[Region.wanted,hg]
 rw[if_pos hw];obtain ⟨i,z,hi,hz,hsize,hby,hzc⟩:=K.hi;obtain ⟨us,h1,h2,h3⟩:=hown;obtain ⟨ad,c,rfl,hc,hm,hnil,hcell⟩:=hu;have hbt:(ts.length+1)*i.bytes≤140737488355328:=by
  have:=Nat.mul_le_mul hlen hby;omega
 obtain ⟨b,off,rfl,_,hn⟩:=hcell (by simp);obtain ⟨news,n1,n2,n3,n4⟩:=SE.flat hn;obtain ⟨v',w',hrun,k1,k2,_,k4⟩:=run_append_own_at (P:=P) w B t o.type e i z S.k i.bytes K.ht hi hz hsize rfl hzc S.pos v ts.length us h1 ⟨b,off,none⟩ 1 c news n1 (fun j y hj=>by rw[Addr.add_mid];exact n3 j y hj) n2 (by unfold maxLen;omega) hbt hbase;have hK2:=h v' w' ⟨us++news,by rw[List.length_append];exact k1,fun y hy=>?_,fun j y hj=>?_⟩ k2 k4
 ·unfold Oper.wp
  simp[execOp,ho,resolve,invoke,builtin,hs,hx,hrun,Result.andThen];exact hK2
 ·rcases List.mem_append.1 hy with hy | hy
  ·exact h2 y hy
  ·exact n2 y hy
 ·have hul:=h1.1
  by_cases hjl:j<ts.length
  ·rw[List.getElem?_append_left hjl] at hj
   obtain ⟨vs,a1,a2⟩:=h3 j y hj;refine ⟨vs,fun f hf=>?_,Sh.moved a2 k2 k4⟩;have h5:(j+1)*S.k≤ts.length*S.k:=Nat.mul_le_mul_right _ hjl;rw[Nat.add_mul,Nat.one_mul] at h5;rw[List.getElem?_append_left (by rw[hul];omega)];exact a1 f hf
  ·rw[List.getElem?_append_right (by omega)] at hj
   obtain ⟨vs,a1,a2⟩:=n4 (j - ts.length) y hj;refine ⟨vs,fun f hf=>?_,Sh.moved a2 k2 k4⟩;have h5:ts.length*S.k≤j*S.k:=Nat.mul_le_mul_right _ (by omega);rw[List.getElem?_append_right (by rw[hul];omega),hul,← a1 f hf,Nat.sub_mul];congr 1
   omega
end
theorem alK {l:List St}{k:Nat}(h:k<l.length):stAt l k=l[k]:=by
 unfold stAt;rw[List.getD_eq_getElem?_getD,List.getElem?_eq_getElem h];rfl
theorem alL {l:List Se}{k:Nat}(h:k<l.length):seAt l k=l[k]:=by
 unfold seAt;rw[List.getD_eq_getElem?_getD,List.getElem?_eq_getElem h];rfl
theorem arB {a b:List St}(hl:a.length=b.length)(h:∀ k,k<a.length→stAt a k=stAt b k):a=b:=List.ext_getElem hl fun k h1 h2=>by
 have e:=h k h1;rwa [alK h1,alK h2] at e
theorem arC {a b:List Se}(hl:a.length=b.length)(h:∀ k,k<a.length→seAt a k=seAt b k):a=b:=List.ext_getElem hl fun k h1 h2=>by
 have e:=h k h1;rwa [alL h1,alL h2] at e
structure MIn (w:World)(t o x y l:Value)(m:Md):Prop where
 mk ::
 tree:NL w t m.tree
 own:SL w o m.own
 path:PIn w x y m.path
 last:Rd w l m.last
theorem MIn.kp {w w':World}{t o x y l:Value}{m:Md}(h:MIn w t o x y l m)(k:Kp w w'):MIn w' t o x y l m:=⟨h.tree.kp k,arM.kp h.own k,h.path.kp k,h.last.kp k⟩
def MV (w:World)(v:Value)(m:Md):Prop:=∃ t o x y l,v=.agg #[t,o,x,y,l]∧MIn w t o x y l m
theorem MIn.none (w:World):MIn w (.slice none 0 0) (.slice none 0 0) (.slice none 0 0) (.slice none 0 0) (.slice none 0 0) noMd:=⟨NL.nil w,arM.nil w,⟨aaP w,arM.nil w⟩,aaP w⟩
theorem aaY:(Tryz.prog.info? 47).map (·.size)=some 5:=by kernel_rfl
theorem one5 {a1 a2 a3 a4 a5:Option Addr}{n1 n2 n3 n4 n5 c1 c2 c3 c4 c5:Nat}:∀ z∈[Value.slice a1 n1 c1,.slice a2 n2 c2,.slice a3 n3 c3,.slice a4 n4 c4,.slice a5 n5 c5],z.oneCell'=true:=by
 intro z hz;simp only[List.mem_cons,List.not_mem_nil,or_false] at hz;rcases hz with rfl | rfl | rfl | rfl | rfl <;> rfl
theorem ai3 {own:List Sd}{info:List UInt8}:∀ (who:List Int) (f:List Se) (k:Nat),k≤who.length→(∀ j,j<k→(abe own (who.getD j 0)).length=0)→aa8 own info who f=aa8 own info (who.drop k) (f.drop k)
 | who,f,0,_,_=>by rw[List.drop_zero,List.drop_zero]
 | [],f,k+1,h,_=>absurd h (Nat.not_succ_le_zero _)
 | y :: l,f,k+1,h,hp=>by
  have h0:(abe own y).length=0:=hp 0 (Nat.succ_pos _)
  have e:aa8 own info (y :: l) f=aa8 own info l f.tail:=by
   show (if (abe own y).length=0 then _ else _)=_
   rw[if_pos h0]
  rw[e,ai3 l f.tail k (Nat.le_of_succ_le_succ h) fun j hj=>hp (j+1) (Nat.succ_lt_succ hj)]
  congr 1
  cases f with
  | nil=>simp
  | cons a f=>rfl
theorem aov {own:List Sd}{info:List UInt8}{who:List Int}{f:List Se}{k:Nat}(hk:k<who.length)(hl:f.length=who.length)(hp:∀ j,j<k→(abe own (who.getD j 0)).length=0)(h:(abe own (who.getD k 0)).length≠0):
  aa8 own info who f=if (seAt f k).half.length≠32 then ([],5)
   else if unE (abe own (who.getD k 0)) (seAt f k).half info (seAt f k).b≠0 then ([],unE (abe own (who.getD k 0)) (seAt f k).half info (seAt f k).b)
   else if (unR (abe own (who.getD k 0)) (seAt f k).half info (seAt f k).b).length≠32 then ([],2)
   else (unR (abe own (who.getD k 0)) (seAt f k).half info (seAt f k).b,0):=by
 rw[ai3 who f k (by omega) hp];have e1:who.drop k=who.getD k 0 :: who.drop (k+1):=by
  rw[List.drop_eq_getElem_cons hk,List.getD_eq_getElem?_getD,List.getElem?_eq_getElem hk];rfl
 have e2:f.drop k=seAt f k :: f.drop (k+1):=by
  unfold seAt;rw[List.drop_eq_getElem_cons (by omega),List.getD_eq_getElem?_getD,List.getElem?_eq_getElem (by omega)];rfl
 rw[e1,e2];show (if (abe own (who.getD k 0)).length=0 then _ else _)=_
 rw[if_neg h];rfl
theorem amR {own:List Sd}{info:List UInt8}{who:List Int}{f:List Se}(hp:∀ j,j<who.length→(abe own (who.getD j 0)).length=0):aa8 own info who f=([],5):=by
 rw[ai3 who f who.length (Nat.le_refl _) hp,List.drop_length];rfl
theorem aox {t:List Nod}{K i me:Nat}{own:List Sd}(hr:aab t K)(hki:(ats t (2*i)).kind=1)(hne:i≠me)(hs:abB t K (me:Int) own):
  kM t i me<(aaa t i K).length∧(aaa t i K).getD (kM t i me) 0=coN i me∧∀ j,j<kM t i me→(aaa t i K).getD j 0≠coN i me:=by
 have hkm:=(hr.there_iff me).1 hs.1;have hlen:=hr.len2;have hi:i<2 ^ K:=by have:=aab.lt_of (t:=t) (x:=2*i) (by rw[hki];decide);omega
 have hm:me<2 ^ K:=by have:=aab.lt_of (t:=t) (x:=2*me) (by rw[hkm];decide);omega
 obtain ⟨m1,m2,_,_⟩:=ac8 hr.le hi hm hne;obtain ⟨y,hy,hyk⟩:=aiC hr hi hkm hm hne hs;obtain ⟨k1,k2,k3,k4⟩:=aqG (K:=K) ⟨m1,m2⟩ (List.length_pos_of_mem hy);have hl:=(aax t i K).1;refine ⟨by omega,k4,fun j hj e=>?_⟩;have hnd:=abo t i K;have e2:(aaa t i K).getD j 0=(aaa t i K).getD (kM t i me) 0:=e.trans k4.symm;rw[List.getD_eq_getElem?_getD,List.getD_eq_getElem?_getD,List.getElem?_eq_getElem (by omega),List.getElem?_eq_getElem (by omega)] at e2;exact List.pairwise_iff_getElem.1 hnd j (kM t i me) (by omega) (by omega) hj e2
theorem arP {l:List Nat}{a b:Nat}:(l.drop a).getD b 0=l.getD (a+b) 0:=by
 rw[List.getD_eq_getElem?_getD,List.getD_eq_getElem?_getD,List.getElem?_drop]
end Go.Proofs.YthmhklmkgkfcpaaGreatDoor
