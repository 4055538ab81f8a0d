import Derived.Test.YthmhklmkgkfcpaaGreatDoorR10
import Derived.Test.YthmhklmkgkfcpaaGreatDoorR14
import Derived.Test.YthmhklmkgkfcpaaGreatDoorR17
import Derived.Test.YthmhklmkgkfcpaaGreatDoorR19
import Derived.Test.YthmhklmkgkfcpaaGreatDoorR20
import Derived.Test.YthmhklmkgkfcpaaGreatDoorR25
import Derived.Test.YthmhklmkgkfcpaaGreatDoorR26
import Derived.Test.YthmhklmkgkfcpaaGreatDoorR29
import Derived.Test.YthmhklmkgkfcpaaGreatDoorR30
import Derived.Test.YthmhklmkgkfcpaaGreatDoorR31
import Derived.Test.YthmhklmkgkfcpaaGreatDoorR32
import Derived.Test.YthmhklmkgkfcpaaGreatDoorR33
import Derived.Maps.OwnSet
import Derived.Deep.AppendLies
set_option linter.unusedVariables false
set_option linter.unusedSimpArgs false
set_option maxHeartbeats 8000000
set_option maxRecDepth 100000
namespace Go.Proofs.YthmhklmkgkfcpaaGreatDoor
open Go.RowKit
theorem aa5 {P:Program}{ops:Array Oper}{rest:List Oper}{o:Oper}{a:Act}{w:World}{Q:Exit→Act→World→Prop}(hgd:o.guard=none)(hd:o.dst=none)(ty:TypeId)(x y:Operand)(ho:o.op=.store ty x y)
  (b f:Nat) (v:Value) (hx:a.eval x=.pointer (some ⟨b,f,none⟩)) (hy:a.eval y=v) (h1:v.oneCell'=true) (ht:w.there b f 1) (hi:(P.info? ty).map (·.size)=some 1)
  (h:∀ w',w'=w.setCells b f [v]→wpList P ops Q rest a w'):wpList P ops Q (o :: rest) a w:=by
 have hc:v.cells=#[v]:=by cases v <;> first | rfl | cases h1
 have:=run_storeCells_cells (P:=P) b f [v] 0 w (fun j hj=>by simpa using (ht j (by simpa using hj)).1) (fun j hj=>by simpa using (ht j (by simpa using hj)).2)
  (fun z hz=>by simp at hz;subst hz;exact h1)
 have hrun:(storeVar ty ⟨b,f,none⟩ v).run P w=.ok () (w.setCells b f [v]):=by
  cases hq:P.info? ty with
  | none=>simp[hq] at hi
  | some i=>
   have hs:i.size=1:=by simpa [hq] using hi
   simp only[Nat.add_zero] at this;simp[storeVar,sizeOf,typeInfo,hq,hc,hs,this]
 refine wpList_plain hgd fun _ hK=>?_
 unfold Oper.wp execOp;simp only[ho,hx,hy,Instr.storeAt,Instr.sureAddr,Sem.run_bind,Sem.run_pure,Result.andThen_ok,hrun];refine hK _ _ ?_;rw[hd];exact h _ rfl
theorem ag2:(Tryz.prog.info? 24).map (·.size)=some 1:=by kernel_rfl
theorem aih:(Tryz.prog.info? 34).map (·.size)=some 1:=by kernel_rfl
theorem aq3 {N:Nat}{R:Nat→Value→Value→Value→Prop}(h:∀ i,i<N→∃ p u q,R i p u q):∃ P U Q:Nat→Value,∀ i,i<N→R i (P i) (U i) (Q i):=by
 have h':∀ i,∃ p u q,i<N→R i p u q:=fun i=>by
  by_cases hi:i<N
  ·obtain ⟨p,u,q,hr⟩:=h i hi
   exact ⟨p,u,q,fun _=>hr⟩
  ·exact ⟨undef,undef,undef,fun hh=>absurd hh hi⟩
 exact ⟨fun i=>(h' i).choose,fun i=>(h' i).choose_spec.choose,fun i=>(h' i).choose_spec.choose_spec.choose,fun i hi=>(h' i).choose_spec.choose_spec.choose_spec hi⟩
theorem aoo (t:List Nod)(i:Nat)(hi:i<t.length):t.set i (ats t i)=t:=by
 rw[aes hi];exact List.set_getElem_self hi
theorem ac1 {P:Program}{ops:Array Oper}{rest:List Oper}{o:Oper}{a:Act}{w:World}{Q:Exit→Act→World→Prop}(hgd:o.guard=none)(hd:o.dst=none)(ty:TypeId)(x y:Operand)(ho:o.op=.store ty x y)
  (g f:Nat) (cs:List Value) (hx:a.eval x=.pointer (some ⟨g,f,none⟩)) (hy:a.eval y=.agg cs.toArray) (hl:cs.length=5) (hone:∀ z∈cs,z.oneCell'=true) (ht:w.there g f 5) (hi:(P.info? ty).map (·.size)=some 5)
  (h:∀ w',w'=w.setCells g f cs→wpList P ops Q rest a w'):wpList P ops Q (o :: rest) a w:=by
 refine wpList_store_mid hgd ty x y ho g f cs.toArray hx hy (by rw[List.size_toArray,hl];exact ht) (by rw[hi,List.size_toArray,hl]) (all_oneCell_toArray hone) ?_;rw[hd];exact h _ rfl
theorem NX.at {e ei:TypeId}{w:World}{B g N c:Nat}{t:List Nod}{P U H:Nat→Value}{S:Nat→Prop}(h:NX e ei w B (.slice (some ⟨g,0,none⟩) N c) t P U H S)(i:Nat)(hi:i<t.length):NAt w g (i*5) (ats t i) (P i) (U i) (H i):=by
 obtain ⟨us,k1,k2,k3⟩:=h.row;have hn:=h.len;subst hn;refine ⟨fun j x hj=>?_,h.ins i hi⟩;have hjl:j<5:=(List.getElem?_eq_some_iff.1 hj).1;rw[k1.cellAt (i*5+j) (by omega),k3 i hi j hjl];exact hj
theorem aap {P:Program}{fn:Func}{p q:Tmp}{ty:TypeId}(h:fn.results=#[.cell p ty,.tmp q])(tmps:Array Value)(w:World)(g:Nat)(t:TypeId)(cs:Array Value)(fr:Nat × Nat)(d:TypeDesc)(v:Value)
  (hp:tmps.getD p undef=.pointer (some ⟨g,0,none⟩)) (hg:w.heap[g]?=some (.cells cs t fr))
  (hu:P.underlying ty=some d) (hd:(match d with | .struct _ | .array _ _=>true | _=>false)=true) (hi:(P.info? ty).map (·.size)=some cs.size) (hq:tmps.getD q undef=v):
  (results fn tmps).run P w=.ok (.tuple #[.agg cs,v]) w:=by
 have hp':tmps[p]?.getD undef=.pointer (some ⟨g,0,none⟩):=by simpa using hp
 have hq':tmps[q]?.getD undef=v:=by simpa using hq
 simp[results,h,hp',hq',asAddr,run_loadVar_row w g t ty cs fr d hg hu hd hi]
theorem aan {P:Program}{ops:Array Oper}{rest:List Oper}{o:Oper}{a:Act}{w:World}{Q:Exit→Act→World→Prop}(hgd:o.guard=none)(hd:o.dst=none)(ty:TypeId)(x y:Operand)(ho:o.op=.store ty x y)
  (g:Nat) (T:TypeId) (cs vs:Array Value) (hx:a.eval x=.pointer (some ⟨g,0,none⟩)) (hy:a.eval y=.agg vs) (hb:Bx w g T cs) (hl:vs.size=cs.size) (hone:∀ z∈vs.toList,z.oneCell'=true) (hi:(P.info? ty).map (·.size)=some vs.size)
  (h:∀ w',Bx w' g T vs→w.grownBy w' (some g)→(∀ w0,Kp w0 w→w0.heap.size≤g→Kp w0 w')→wpList P ops Q rest a w'):wpList P ops Q (o :: rest) a w:=by
 refine wpList_store_mid hgd ty x y ho g 0 vs hx hy (by rw[hl];exact hb.there) hi (all_oneCell_toArray (cs:=vs.toList) hone) ?_;rw[hd];exact h _ (hb.fill vs hl) (aa4 w g 0 vs.toList 0) fun w0 k hg=>k.setCells hg vs.toList 0
theorem aop (k l:List UInt8):expL k (labI l [] 32) 32=derB k l:=by
 unfold derB labR expR;rw[if_pos (by decide)];rfl
theorem amF (vk:Value)(s:ByteArray)(k:List UInt8)(w:World)(hk:Rd w vk k)(hs:s.size≤300)(hkl:k.length≤2000):
  Calls Tryz.prog 32 #[vk,.string s] w fun e w'=>(∃ v,e=.returned v∧Rd w' v (derB k s.data.toList)∧aaR w.heap.size v)∧Kp w w':=by
 have HL:=Lib.hid (aiY vk s k w hk hs hkl);rw[aop] at HL;generalize derB k s.data.toList=D at *;obtain ⟨a,n,c,rfl⟩:=aac hk;clear hk hkl;go_enter Tryz.func32,Tryz.ntmps32;go_wp2_with fail;refine HL.out.mono ?_;rintro _ w1 ⟨⟨v,rfl,r1,nw⟩,k1⟩;have R1:=Lib.hid (And.intro r1 k1);obtain ⟨a1,n1,c1,rfl⟩:=aac r1;clear r1 k1 HL;go_wp2_with fail;go_ret;exact ⟨⟨_,rfl,R1.out.1,nw⟩,R1.out.2⟩
def Sly (w:World)(g:Nat):Prop:=∃ (T:TypeId) (cs:Array Value),Bx w g T cs∧∀ (j:Nat) (z:Value),cs[j]?=some z→∃ a n c,z=Value.slice a n c
theorem sly5 {w:World}{g:Nat}{T:TypeId}{a1 a2 a3 a4 a5:Option Addr}{n1 n2 n3 n4 n5 c1 c2 c3 c4 c5:Nat}(h:Bx w g T #[.slice a1 n1 c1,.slice a2 n2 c2,.slice a3 n3 c3,.slice a4 n4 c4,.slice a5 n5 c5]):Sly w g:=
 ⟨T,_,h,fun j z hj=>by
  match j with
  | 0=>cases hj;exact ⟨_,_,_,rfl⟩
  | 1=>cases hj;exact ⟨_,_,_,rfl⟩
  | 2=>cases hj;exact ⟨_,_,_,rfl⟩
  | 3=>cases hj;exact ⟨_,_,_,rfl⟩
  | 4=>cases hj;exact ⟨_,_,_,rfl⟩
  | j+5=>simp at hj⟩
theorem Sly.no {w:World}{g:Nat}(h:Sly w g){x:Addr}{k:IntKind}{n:Int}(hx:x.block=g)(hc:w.cell? x=some (.int k n)):False:=by
 obtain ⟨T,cs,hb,hz⟩:=h;subst hx;unfold World.cell? at hc;have hb':w.heap[x.block]?=some (.cells cs T (0,0)):=hb;rw[hb'] at hc;dsimp only at hc
 split at hc
 ·cases hc
 ·obtain ⟨a,n,c,e⟩:=hz _ _ hc
  cases e
theorem Rd.sly {w:World}{g:Nat}{v:Value}{l:List UInt8}(h:Rd w v l)(hs:Sly w g):Free (fun k=>k=g) v:=fun x n c e h0 hk=>by
 obtain ⟨a',c',e',h1,h2,h3,h4⟩:=h;rw[e] at e';simp only[Value.slice.injEq] at e';obtain ⟨rfl,rfl,rfl⟩:=e';exact hs.no (by rw[aaL];exact hk) (h4 x rfl 0 h0)
theorem RI.sly {w:World}{g:Nat}{v:Value}{l:List Int}(h:RI w v l)(hs:Sly w g):Free (fun k=>k=g) v:=fun x n c e h0 hk=>by
 obtain ⟨a',c',e',h1,h2,h3,h4⟩:=h;rw[e] at e';simp only[Value.slice.injEq] at e';obtain ⟨rfl,rfl,rfl⟩:=e';have hc:=h4 x rfl 0 h0;rw[List.getElem_map] at hc;exact hs.no (by rw[aaL];exact hk) hc
theorem NL.sly {w w':World}{g:Nat}{v:Value}{t:List Nod}(h:NL w v t)(hs:Sly w g)(st:Step (fun k=>k=g) w w'):NL w' v t:=by
 obtain ⟨a,c,e,h1,h2,h3,h4⟩:=h;refine ⟨a,c,e,h1,h2,h3,fun h0=>?_⟩;obtain ⟨b,off,ha,hb,hi⟩:=h4 h0;obtain ⟨p0,u0,h0',hn0⟩:=hi 0 h0;have hne:b≠g:=fun e=>hs.no (x:=⟨b,off+0*5,none⟩) e hn0.kind
 refine ⟨b,off,ha,Nat.lt_of_lt_of_le hb st.size,fun i hi2=>?_⟩;obtain ⟨p,u,q,hn⟩:=hi i hi2;exact ⟨p,u,q,fun j v hj=>st.cell (hn.1 j v hj) hne,hn.2.pub.stepF st (hn.2.pub.sly hs),hn.2.un.stepF st (hn.2.un.sly hs),hn.2.hash.stepF st (hn.2.hash.sly hs)⟩
theorem ahd {w:World}{g:Nat}{T:TypeId}{a0 a1 a2 a3 a4:Value}(hb:Bx w g T #[a0,a1,a2,a3,a4])(v0 v1 v2 v3 v4:Value):
  Bx (((((w.setCell ⟨g,0,none⟩ v0).setCell ⟨g,1,none⟩ v1).setCell ⟨g,2,none⟩ v2).setCell ⟨g,3,none⟩ v3).setCell ⟨g,4,none⟩ v4) g T #[v0,v1,v2,v3,v4]
  ∧ Step (fun k=>k=g) w (((((w.setCell ⟨g,0,none⟩ v0).setCell ⟨g,1,none⟩ v1).setCell ⟨g,2,none⟩ v2).setCell ⟨g,3,none⟩ v3).setCell ⟨g,4,none⟩ v4)
  ∧ ∀ w0,Kp w0 w→w0.heap.size≤g→Kp w0 (((((w.setCell ⟨g,0,none⟩ v0).setCell ⟨g,1,none⟩ v1).setCell ⟨g,2,none⟩ v2).setCell ⟨g,3,none⟩ v3).setCell ⟨g,4,none⟩ v4):=by
 have h2:=aa4 w g 0 [v0,v1,v2,v3,v4] 0;exact ⟨hb.fill #[v0,v1,v2,v3,v4] rfl,⟨h2.os,h2.tape,h2.output,h2.size,fun q hq hn=>h2.block q hq fun e=>hn (by cases e;rfl)⟩,fun w0 k hg=>k.setCells hg [v0,v1,v2,v3,v4] 0⟩
end Go.Proofs.YthmhklmkgkfcpaaGreatDoor
namespace Go.Proofs.YthmhklmkgkfcpaaGreatDoor
open Go.RowKit Go.Maps
theorem aoH:Keyed Tryz.prog 3:=int_keyed Tryz.underlying3
theorem aoI (w:World):(zeroValue 237).run Tryz.prog w=.ok (.agg #[]) w:=by kernel_rfl
theorem akg (n:Int)(w:World):(Instr.makeMap 236 (some (.int .i64 n))).run Tryz.prog w=.ok (.map (some w.heap.size)) (w.alloc (.map #[] 0)):=by
 simp[Instr.makeMap,run_underlying Tryz.underlying236,asInt,Result.andThen,newObj];rfl
def setH (g:List Int):DataW Unit:=setOf (.agg []) (g.map fun i=>Lit.int .i64 (2*i))
theorem aoJ (g:List Int)(x:Int):setH (g++[x])=(setH g).put (.int .i64 (2*x)) (.agg []):=by
 unfold setH;rw[List.map_append,List.map_cons,List.map_nil,setOf_snoc]
theorem ap0 (g:List Int)(x:Int):Maps.has (setH g) (.int .i64 x)=decide (x∈g.map (2*·)):=by
 unfold setH;rw[has_setOf]
 ·by_cases h:x∈g.map (2*·)
  ·rw[decide_eq_true h,List.any_eq_true]
   obtain ⟨i,hi,rfl⟩:=List.mem_map.1 h;exact ⟨_,List.mem_map.2 ⟨i,hi,rfl⟩,by simp[Lit.sameKey]⟩
  ·rw[decide_eq_false h,List.any_eq_false]
   intro k hk;obtain ⟨i,hi,rfl⟩:=List.mem_map.1 hk;intro e;refine h (List.mem_map.2 ⟨i,hi,?_⟩);simpa [Lit.sameKey] using e
 ·intro k hk
  obtain ⟨i,hi,rfl⟩:=List.mem_map.1 hk;trivial
def Cnt (w:World)(v:Value)(g:List Int):Prop:=
 ∃ b m n,v=.func (.func 210) #[] #[.pointer (some ⟨b,0,none⟩)]∧Bx w b 236 #[.map (some m)]∧w.ownsMap Tryz.prog 3 (unitElem (H:=Unit)) m n (setH g)
theorem Cnt.kp {w w':World}{v:Value}{g:List Int}(h:Cnt w v g)(k:Kp w w'):Cnt w' v g:=by
 obtain ⟨b,m,n,e,h1,h2⟩:=h;exact ⟨b,m,n,e,h1.kp k,h2.kept ⟨k.os,k.tape,k.output,k.size,fun i hi _=>k.block i hi⟩ (row:=none) (by simp)⟩
theorem amY (b m n:Nat)(g:List Int)(x:Int)(w:World)(h1:Bx w b 236 #[.map (some m)])(h2:w.ownsMap Tryz.prog 3 (unitElem (H:=Unit)) m n (setH g))(hx:-9223372036854775808≤x∧x≤9223372036854775807):
  Calls Tryz.prog 210 #[.int .i64 x,.pointer (some ⟨b,0,none⟩)] w fun e w'=>e=.returned (.bool (!decide (x∈g.map (2*·))))∧Kp w w':=by
 have c0:=h1.cell 0;simp only[List.getElem?_toArray,List.getElem?_cons_zero] at c0;have hkey:Go.keyOf Tryz.prog 3 (.int .i64 x)=some (.int .i64 x):=keyOf_int_mk Tryz.underlying3 (WalkArith.wf_i64 (by omega));have HS:=Lib.hid (ap0 g x);have HM:=Lib.hid h2;clear h1 h2;go_enter Tryz.func210,Tryz.ntmps210;go_wp2_with (first
  | (at_lookup;refine wpList_lookup_own_unit _ rfl _ _ 236 rfl 3 237 aoH Tryz.underlying236 (aoI _) m n _ rfl HM.out _ _ rfl hkey ?_)
  | go_in)
 have KA:Hid (Kp w (w.alloc (.cells #[] 237))):=(Kp.refl _).alloc _;rw[HS.out];go_ret;exact ⟨rfl,KA.out⟩
theorem Cnt.call {w:World}{v:Value}{g:List Int}(h:Cnt w v g):
  ∃ b,v=.func (.func 210) #[] #[.pointer (some ⟨b,0,none⟩)]∧∀ (y:Int) (W:World),Kp w W→-9223372036854775808≤y∧y≤9223372036854775807 →
   Calls Tryz.prog 210 #[.int .i64 y,.pointer (some ⟨b,0,none⟩)] W fun e w'=>e=.returned (.bool (!decide (y∈g.map (2*·))))∧Kp W w':=by
 obtain ⟨b,m,n,e,h1,h2⟩:=h;exact ⟨b,e,fun y W k hy=>amY b m n g y W (h1.kp k) (h2.kept ⟨k.os,k.tape,k.output,k.size,fun i hi _=>k.block i hi⟩ (row:=none) (by simp)) hy⟩
theorem amZ (v:Value)(g:List Int)(w:World)(hv:RI w v g)(hl:g.length≤100000)(hg:∀ i∈g,-1000000≤i∧i≤1000000):
  Calls Tryz.prog 178 #[v] w fun e w'=>(∃ r,e=.returned r∧Cnt w' r g)∧Kp w w':=by
 have hmm:=akg;have HV:=Lib.hid hv;obtain ⟨a,c,rfl,_,_⟩:=hv.shape;obtain ⟨GL,hGL⟩:∃ GL,g.length=GL:=⟨_,rfl⟩;rw[hGL] at HV hl ⊢;clear hv;go_enter Tryz.func178,Tryz.ntmps178;go_wp2_with fail;obtain ⟨WB,hWB⟩:∃ WB,(w.alloc (.map #[] 0)).alloc (.cells #[.map (some w.heap.size)] 236)=WB:=⟨_,rfl⟩;have hb0:Bx WB (w.heap.size+1) 236 #[.map (some w.heap.size)]:=by
  rw[← hWB];have:=Bx.new (w.alloc (.map #[] 0)) 236 #[.map (some w.heap.size)];rwa [World.size_alloc] at this
 have hm0:WB.ownsMap Tryz.prog 3 (unitElem (H:=Unit)) w.heap.size 0 (setH (g.take 0)):=by
  rw[← hWB];exact (World.ownsMap_made w Tryz.prog 3 (unitElem (H:=Unit))).alloc _
 have hk0:Kp w WB:=by rw[← hWB];exact ((Kp.refl _).alloc _).alloc _
 rw[hWB];clear hWB hmm;have HG:Hid (∀ i,i<GL→g.take (i+1)=g.take i++[g.getD i 0]∧-1000000≤g.getD i 0∧g.getD i 0≤1000000):=fun i hi=>by
  have hm:g.getD i 0∈g:=by rw[List.getD_eq_getElem?_getD,List.getElem?_eq_getElem (by omega)];exact List.getElem_mem _
  refine ⟨?_,hg _ hm⟩;rw[List.take_add_one,List.getD_eq_getElem?_getD,List.getElem?_eq_getElem (by omega)];rfl
 have HTE:Hid (g.take GL=g):=by unfold Hid;rw[← hGL];exact List.take_length
 clear hg hGL;have H0:=Lib.hid (And.intro hb0 (And.intro hm0 hk0));clear hb0 hm0 hk0;go_loopw[11] (fun x wr=>∃ i:Nat,i≤GL∧x=.int .i64 (i:Int)∧Bx wr (w.heap.size+1) 236 #[.map (some w.heap.size)]∧wr.ownsMap Tryz.prog 3 (unitElem (H:=Unit)) w.heap.size i (setH (g.take i))∧Kp w wr) (fun x _=>(GL - (intOf x).toNat))
 case atStart=>exact ⟨0,Nat.zero_le _,rfl,H0.out⟩
 case round=>
  obtain ⟨i,hi,rfl,hb,hm,hkp⟩:=hrel;have HR:=Lib.hid (And.intro hb (And.intro hm hkp));by_cases hlt:i<GL
  ·obtain ⟨gu,ou,rfl,_,hcu⟩:=(HV.out.kp hkp).at i hlt
   have cu2:=hcu i hlt;have cb:=hb.cell 0;simp only[List.getElem?_toArray,List.getElem?_cons_zero] at cb;obtain ⟨g1,g2,g3⟩:=HG.out i hlt;have i1:IntKind.i64.wrap ((i:Int)+1)=(i:Int)+1:=IntWalk.i64_in _ (by omega);have i3:(i:Int)<(GL:Int):=by omega
   have HG1:=Lib.hid g1;generalize g.getD i 0=X at *;have i2:IntKind.i64.wrap (2*X)=2*X:=IntWalk.i64_in _ (by omega);have hkey:Go.keyOf Tryz.prog 3 (.int .i64 (2*X))=some (.int .i64 (2*X)):=keyOf_int_mk Tryz.underlying3 (WalkArith.wf_i64 (by omega));have hn:i<maxLen:=by unfold maxLen;omega
   clear hcu hkp hb hm HG HV HTE g1 g2 g3;go_wp2_with (at_mapUpdate;refine wpList_mapUpdate_own _ rfl _ _ _ 236 rfl 3 237 aoH Tryz.underlying236 (unitElem (H:=Unit)) w.heap.size i _ rfl HR.out.2.1 hn _ _ _ rfl rfl hkey _ [] unitElem_mk ?_;intro w1 hown1 hgrow1)
   go_roundw
   case rel=>exact ⟨i+1,by omega,by go_num,HR.out.1.grown hgrow1 (by simp),by rw[HG1.out,aoJ];exact hown1,Below.grown HR.out.2.2 hgrow1 HR.out.2.2.size (fun k hk=>by cases hk;exact Nat.le_refl _)⟩
   case measure=>simp[intOf];omega
  ·obtain rfl:i=GL:=by omega
   have hle:¬(i:Int)<(i:Int):=by omega
   clear hb hm hkp HG HV;go_wp2_with fail;go_ret;obtain ⟨r1,r2,r3⟩:=HR.out;rw[HTE.out] at r2;exact ⟨⟨_,rfl,_,_,_,rfl,r1,r2⟩,r3⟩
end Go.Proofs.YthmhklmkgkfcpaaGreatDoor
namespace Go.Proofs.YthmhklmkgkfcpaaGreatDoor
open Go.RowKit
theorem afC (l:List Int)(g:List Int)(i:Nat)(h:i<l.length):
  (l.take (i+1)).filter (fun i=>decide (i∉g))=(l.take i).filter (fun i=>decide (i∉g))++(if l.getD i 0∈g then [] else [l.getD i 0]):=by
 rw[List.take_add_one,List.getElem?_eq_getElem h,List.filter_append,List.getD_eq_getElem?_getD,List.getElem?_eq_getElem h];simp only[Option.toList_some,Option.getD_some];by_cases hx:l[i]∈g
 ·rw[if_pos hx];simp[hx]
 ·rw[if_neg hx];simp[hx]
theorem ahf (g:List Int)(i:Int):2*i∈g.map (2*·)↔i∈g:=by
 constructor
 ·intro h
  obtain ⟨j,hj,e⟩:=List.mem_map.1 h;have:j=i:=by omega
  exact this▸hj
 ·exact fun h=>List.mem_map.2 ⟨i,h,rfl⟩
theorem ahg (v vc:Value)(n:Nod)(x:Int)(g:List Int)(w:World)(hv:NV w v n)(hn:ado n)(hc:Cnt w vc g)(hx:0≤x∧x≤1000000):
  Calls Tryz.prog 208 #[v,.int .i64 x,vc] w fun e w'=>(∃ r,e=.returned r∧NV w' r (if x∈g.map (2*·) then aao else afp n g))∧Kp w w':=by
 have S:=ae0;obtain ⟨cb,rfl,hcl⟩:=hc.call;have HCL:=Lib.hid hcl;obtain ⟨p,ar6,h,rfl,ip,iu,ih⟩:=hv;have HIN:=Lib.hid (And.intro ip (And.intro iu ih));obtain ⟨ap,np,cp,rfl⟩:=aay ip;obtain ⟨ah,nh,ch,rfl⟩:=aay ih;obtain ⟨au,cu,rfl,pu,_⟩:=iu.shape;simp only[nodC];have hun:=hn.un;have hunl:=hn.unl;obtain ⟨WB,hWB⟩:∃ WB,(w.alloc (.cells #[.int .i64 n.kind,.int .i64 n.name,.slice ap np cp,.slice au n.un.length cu,.slice ah nh ch] 81)).alloc (.cells #[.int .i64 0,.int .i64 0,.slice none 0 0,.slice none 0 0,.slice none 0 0] 81)=WB:=⟨_,rfl⟩;have HWB:=Lib.hid hWB;have hb1:Bx WB w.heap.size 81 #[.int .i64 n.kind,.int .i64 n.name,.slice ap np cp,.slice au n.un.length cu,.slice ah nh ch]:=by rw[← hWB];exact (Bx.new _ _ _).kp ((Kp.refl _).alloc _)
 have hb2:Bx WB (w.heap.size+1) 81 #[.int .i64 0,.int .i64 0,.slice none 0 0,.slice none 0 0,.slice none 0 0]:=by
  rw[← hWB];have:=Bx.new (w.alloc (.cells #[.int .i64 n.kind,.int .i64 n.name,.slice ap np cp,.slice au n.un.length cu,.slice ah nh ch] 81)) 81 #[.int .i64 0,.int .i64 0,.slice none 0 0,.slice none 0 0,.slice none 0 0];rwa [World.size_alloc] at this
 have hkw:Kp w WB:=by rw[← hWB];exact ((Kp.refl _).alloc _).alloc _
 have hsz:WB.heap.size=w.heap.size+2:=by rw[← hWB];simp
 have HB1:=Lib.hid hb1;have HB2:=Lib.hid hb2;have HZ:=Lib.hid (And.intro hkw hsz);clear hWB hb1 hb2 hkw hsz hc hcl ip ih hn;by_cases hin:x∈g.map (2*·)
 ·rw[if_pos hin]
  have hcx:=Lib.hid (HCL.out x WB HZ.out.1 (by omega));rw[decide_eq_true hin] at hcx;clear hin hx HCL HIN iu hun hunl;go_enter Tryz.func208,Tryz.ntmps208;go_wp2_with fail;rw[HWB.out];refine hcx.out.mono ?_;rintro _ w2 ⟨rfl,k2⟩;have HB:=Lib.hid (HB2.out.kp k2);have HK2:=Lib.hid (HZ.out.1.trans k2);have HTH:=Lib.hid (HB.out.there);have hone:=agb (n:=aao) (NIn.mk (aaQ w2) (RI.nil w2) (aaQ w2));clear k2 hcx HB1 HB2 HWB;go_wp2_with (refine ac1 rfl rfl 81 (.tmp 6) (.tmp 14) rfl (w.heap.size+1) 0 [.int .i64 0,.int .i64 0,.slice none 0 0,.slice none 0 0,.slice none 0 0] rfl rfl rfl hone HTH.out acL ?_;intro W3 hW3)
  have hb3:Bx W3 (w.heap.size+1) 81 #[.int .i64 0,.int .i64 0,.slice none 0 0,.slice none 0 0,.slice none 0 0]:=by rw[hW3];exact HB.out.fill #[.int .i64 0,.int .i64 0,.slice none 0 0,.slice none 0 0,.slice none 0 0] rfl
  have hk3:Kp w W3:=by rw[hW3];exact HK2.out.setCells (by omega) _ _
  refine bodyPost_ret (results_cell_row rfl _ _ (w.heap.size+1) _ _ (0,0) _ rfl hb3 Tryz.underlying81 rfl acL) rfl ?_;exact ⟨⟨_,rfl,NV.blank _⟩,hk3⟩
 ·rw[if_neg hin]
  have hcx:=Lib.hid (HCL.out x WB HZ.out.1 (by omega));rw[decide_eq_false hin] at hcx;obtain ⟨UL,hUL⟩:∃ UL,n.un.length=UL:=⟨_,rfl⟩;have HFT:=Lib.hid (afC n.un g);obtain ⟨F,hF⟩:∃ F:Nat→List Int,F=fun i=>(n.un.take i).filter (fun i=>decide (i∉g)):=⟨_,rfl⟩
  have hFi:∀ i,(n.un.take i).filter (fun i=>decide (i∉g))=F i:=fun i=>by rw[hF]
  have HFE:Hid (afp n g=⟨n.kind,n.name,n.pub,F UL,n.hash⟩):=by
   unfold Hid afp;rw[hF,← hUL];simp only[List.take_length]
  have HFL:Hid (∀ i,(F i).length≤100):=fun i=>by rw[hF];exact Nat.le_trans (List.length_filter_le _ _) (by rw[List.length_take];omega)
  have HF0:Hid (F 0=[]):=by rw[hF];rfl
  have HUB:Hid (∀ i,i<UL→0≤n.un.getD i 0∧n.un.getD i 0≤1023):=fun i hi=>by
   have hm:n.un.getD i 0∈n.un:=by rw[List.getD_eq_getElem?_getD,List.getElem?_eq_getElem (by omega)];exact List.getElem_mem _
   exact hun _ hm
  have HUN:Hid (∀ W,Kp w W→RI W (.slice au UL cu) n.un):=fun W hW=>by rw[← hUL];exact iu.kp hW
  rw[HFE.out];rw[hUL] at HWB HB1 HFT hunl pu HIN ⊢;simp only[hFi] at HFT;have HMT:=Lib.hid (ahf g);clear hin hx iu hun hUL hF hFi HFE;go_enter Tryz.func208,Tryz.ntmps208;go_wp2_with fail;rw[HWB.out];refine hcx.out.mono ?_;rintro _ w2 ⟨rfl,k2⟩;have K2:=Lib.hid k2;have c3:=(HB1.out.kp k2).cell 3;simp only[List.getElem?_toArray,List.getElem?_cons_zero,List.getElem?_cons_succ] at c3;clear k2 hcx HWB;go_wp2_with fail;clear c3;go_loopw[7,18] (fun v x wr=>∃ i:Nat,i≤UL∧x=.int .i64 (i:Int)∧OI 3 wr WB.heap.size v (F i)∧Kp WB wr) (fun _ x _=>(UL - (intOf x).toNat))
  case atStart=>exact ⟨0,Nat.zero_le _,rfl,by rw[HF0.out];exact OI.nil _ _ _,K2.out⟩
  case round=>
   obtain ⟨i,hi,rfl,ho,hkp⟩:=hrel;have KR:=Lib.hid hkp;have HO:=Lib.hid ho;by_cases hlt:i<UL
   ·obtain ⟨gu,ou,rfl,_,hcu⟩:=(HUN.out _ (HZ.out.1.trans hkp)).at i hlt
    have cu2:=hcu i hlt;have i1:IntKind.i64.wrap ((i:Int)+1)=(i:Int)+1:=IntWalk.i64_in _ (by omega);have i3:(i:Int)<(UL:Int):=by omega
    have HFTi:=Lib.hid (HFT.out i (by have:=HUN.out _ (Kp.refl _);obtain ⟨_,_,e,_⟩:=this.shape;simp only[Value.slice.injEq] at e;omega));have hub:=HUB.out i hlt;have HFLi:=HFL.out i;generalize n.un.getD i 0=Y at *;have i2:IntKind.i64.wrap (2*Y)=2*Y:=IntWalk.i64_in _ (by omega);have hcy:=Lib.hid (HCL.out (2*Y) wr (HZ.out.1.trans hkp) (by omega));have hmt:=HMT.out Y;clear hcu hkp ho HFT HUN HFL HF0 HUB HCL HMT;by_cases hy:Y∈g
    ·rw[decide_eq_true (hmt.2 hy)] at hcy
     rw[if_pos hy,List.append_nil] at HFTi;clear hy hmt;go_wp2_with fail;refine hcy.out.mono ?_;rintro _ w3 ⟨rfl,k3⟩;have KE:=Lib.hid (And.intro (HO.out.kp k3) (KR.out.trans k3));clear k3 hcy HO KR;go_wp2_with fail;go_roundw
     case rel=>exact ⟨i+1,by omega,by go_num,by rw[HFTi.out];exact KE.out.1,KE.out.2⟩
     case measure=>simp[intOf];omega
    ·rw[decide_eq_false (fun h=>hy (hmt.1 h))] at hcy
     rw[if_neg hy] at HFTi;clear hy hmt;go_wp2_with fail;refine hcy.out.mono ?_;rintro _ w3 ⟨rfl,k3⟩;have KE:=Lib.hid (And.intro (HO.out.kp (k3.alloc (.cells #[.int .i64 Y] 3))) (KR.out.trans (k3.alloc (.cells #[.int .i64 Y] 3))));clear k3 hcy HO KR;go_wp2_with (at_builtin;refine aaD S rfl _ _ rfl WB.heap.size _ (F i) rfl KE.out.1 _ [Y] rfl (RI.lit w3 3 #[.int .i64 Y] [Y] 1 rfl (by omega) rfl).ri (by simp;omega) KE.out.2.size ?_;intro v9 w9 o9 g9;have K9:=Lib.hid (Kp.grown KE.out.2 g9 (fun k hk=>(OI.lt KE.out.1 k hk).1)))
     go_roundw
     case rel=>exact ⟨i+1,by omega,by go_num,by rw[HFTi.out];exact o9,K9.out⟩
     case measure=>simp[intOf];omega
   ·obtain rfl:i=UL:=by omega
    have hle:¬(i:Int)<(i:Int):=by omega
    obtain ⟨av,nv,cv,rfl⟩:=ho.ri.sl;obtain ⟨hz1,hz2⟩:=HZ.out;have HBW:=Lib.hid (HB1.out.kp hkp);have HBV:=Lib.hid (HB2.out.kp hkp);have HKW:=Lib.hid (hz1.trans hkp);have HTH:Hid (wr.there w.heap.size 3 1):=fun j hj=>by have:=HBW.out.there (3+j) (by simp;omega);rwa [Nat.zero_add] at this
    clear hkp ho HFT HUN HFL HF0 HUB HCL HMT HB1 HB2 KR hi hlt K2;have hbv4:∀ W4,W4=wr.setCells w.heap.size 3 [.slice av nv cv]→Bx W4 w.heap.size 81 #[.int .i64 n.kind,.int .i64 n.name,.slice ap np cp,.slice av nv cv,.slice ah nh ch]∧Bx W4 (w.heap.size+1) 81 #[.int .i64 0,.int .i64 0,.slice none 0 0,.slice none 0 0,.slice none 0 0]∧RI W4 (.slice av nv cv) (F i)∧(Kp w W4∧∀ g',(Value.slice av nv cv).ownBlock=some g'→w.heap.size+2≤g'):=fun W4 e=>by
     have hgr:=aa4 wr w.heap.size 0 [.slice av nv cv] 3;have hlt:∀ g',(Value.slice av nv cv).ownBlock=some g'→w.heap.size+2≤g':=fun g' hg'=>by have:=(OI.lt HO.out g' hg').1;omega
     rw[e];exact ⟨HBW.out.set 3 (.slice av nv cv),HBV.out.grown hgr (by simp),(HO.out.grown9 hgr (fun g' hg' e=>by have:=hlt g' hg';simp at e;omega)).ri,HKW.out.setCells (Nat.le_refl _) _ _,hlt⟩
    have HB4:=Lib.hid hbv4;clear hbv4;go_wp2_with (first
     | (refine aa5 rfl rfl 34 (.tmp 32) (.tmp 31) rfl w.heap.size 3 (.slice av nv cv) rfl rfl rfl HTH.out aih ?_;intro W4 hW4;obtain ⟨hb4,hv4,hr4,hk4,hl4⟩:=HB4.out W4 hW4;have c0:=hb4.cell 0;have c1:=hb4.cell 1;have c2:=hb4.cell 2;have c3:=hb4.cell 3;have c4:=hb4.cell 4;simp only[List.getElem?_toArray,List.getElem?_cons_zero,List.getElem?_cons_succ] at c0 c1 c2 c3 c4;have HV4:=Lib.hid hv4;have HR4:=Lib.hid hr4;have HK4:=Lib.hid hk4;have HL4:=Lib.hid hl4;have HTH4:=Lib.hid hv4.there;clear hW4 hb4 hv4 hr4 hk4 hl4)
     | (refine ac1 rfl rfl 81 (.tmp 6) (.tmp 33) rfl (w.heap.size+1) 0 [.int .i64 n.kind,.int .i64 n.name,.slice ap np cp,.slice av nv cv,.slice ah nh ch] rfl rfl rfl (by intro z hz;simp only[List.mem_cons,List.not_mem_nil,or_false] at hz;rcases hz with rfl | rfl | rfl | rfl | rfl <;> rfl) HTH4.out acL ?_;intro W5 hW5))
    subst hW5;have hb5:=HV4.out.fill #[.int .i64 n.kind,.int .i64 n.name,.slice ap np cp,.slice av nv cv,.slice ah nh ch] rfl;have hk5:=HK4.out.setCells (b:=w.heap.size+1) (by omega) [.int .i64 n.kind,.int .i64 n.name,.slice ap np cp,.slice av nv cv,.slice ah nh ch] 0;have hap:aaq (.slice (some ⟨w.heap.size+1,0,none⟩) 0 0) (.slice av nv cv):=fun g' hg' y n c e h0 he=>by
     have h2:g'=w.heap.size+1:=by cases hg';rfl
     have h3:=HL4.out y.block (by rw[e];rfl);omega
    have hr5:=HR4.out.grown9 (v:=.slice (some ⟨w.heap.size+1,0,none⟩) 0 0) (aa4 W4 (w.heap.size+1) 0 [.int .i64 n.kind,.int .i64 n.name,.slice ap np cp,.slice av nv cv,.slice ah nh ch] 0) hap;refine bodyPost_ret (results_cell_row rfl _ _ (w.heap.size+1) _ _ (0,0) _ rfl hb5 Tryz.underlying81 rfl acL) rfl ?_;exact ⟨⟨_,rfl,⟨_,_,_,rfl,⟨HIN.out.1.kp hk5,hr5,HIN.out.2.2.kp hk5⟩⟩⟩,hk5⟩
section
variable {α : Type} {S : Sh α} {Z : Nat → Prop} {P : Program} {w : World} {t e : TypeId}
theorem ahK (K:SK P t e S.k){ops:Array Oper}{o:Oper}{a:Act}{K':Act→World→Prop}{Q:Exit→Act→World→Prop}{E:Prop}(hg:o.guard=none)(s x:Operand)
  (ho:o.op=.call { callee:=.builtin .append,args:=#[s,x],argTypes:=#[t,t] })
  (B:Nat) (v:Value) (ts:List α) (hs:a.eval s=v) (hown:GZ S e Z w B v ts) (u:Value) (y:α) (hx:a.eval x=u) (hu:SE S (fun g=>some g=v.ownBlock∨Z g) w u [y]) (hlen:ts.length+1≤1000000) (hbase:B≤w.heap.size)
  (h:∀ v' w',GZ S e Z w' B v' (ts++[y])→w.grownBy w' v.ownBlock→(v'.ownBlock=v.ownBlock∨v'.ownBlock=some w.heap.size)→K' (a.put o.dst v') w'):if Region.wanted o (yielded ops a.tmps)=true then Oper.wp P o a w K' Q else E:=by
 have hw:Region.wanted o (yielded ops a.tmps)=true:=by simp[Region.wanted,hg]
 rw[if_pos hw];obtain ⟨i,z,hi,hz,hsize,hby,hzc⟩:=K.hi;obtain ⟨us,h1,h2,h3⟩:=hown;obtain ⟨ad,c,rfl,hc,hm,hnil,hcell⟩:=hu;have hbt:(ts.length+1)*i.bytes≤140737488355328:=by
  have:=Nat.mul_le_mul hlen hby;omega
 obtain ⟨b,off,rfl,_,hn⟩:=hcell (by simp);obtain ⟨news,n1,n2,n3,n4⟩:=SE.flat hn;obtain ⟨v',w',hrun,k1,k2,_,k4⟩:=run_append_own_at (P:=P) w B t o.type e i z S.k i.bytes K.ht hi hz hsize rfl hzc S.pos v ts.length us h1 ⟨b,off,none⟩ 1 c news n1 (fun j y hj=>by rw[Addr.add_mid];exact n3 j y hj) n2 (by unfold maxLen;omega) hbt hbase;have hK2:=h v' w' ⟨us++news,by rw[List.length_append];exact k1,fun y hy=>?_,fun j y hj=>?_⟩ k2 k4
 ·unfold Oper.wp
  simp[execOp,ho,resolve,invoke,builtin,hs,hx,hrun,Result.andThen];exact hK2
 ·rcases List.mem_append.1 hy with hy | hy
  ·exact h2 y hy
  ·exact n2 y hy
 ·have hul:=h1.1
  by_cases hjl:j<ts.length
  ·rw[List.getElem?_append_left hjl] at hj
   obtain ⟨vs,a1,a2⟩:=h3 j y hj;refine ⟨vs,fun f hf=>?_,Sh.moved a2 k2 k4⟩;have h5:(j+1)*S.k≤ts.length*S.k:=Nat.mul_le_mul_right _ hjl;rw[Nat.add_mul,Nat.one_mul] at h5;rw[List.getElem?_append_left (by rw[hul];omega)];exact a1 f hf
  ·rw[List.getElem?_append_right (by omega)] at hj
   obtain ⟨vs,a1,a2⟩:=n4 (j - ts.length) y hj;refine ⟨vs,fun f hf=>?_,Sh.moved a2 k2 k4⟩;have h5:ts.length*S.k≤j*S.k:=Nat.mul_le_mul_right _ (by omega);rw[List.getElem?_append_right (by rw[hul];omega),hul,← a1 f hf,Nat.sub_mul];congr 1
   omega
end
structure MIn (w:World)(t o x y l:Value)(m:Md):Prop where
 mk ::
 tree:NL w t m.tree
 own:SL w o m.own
 path:PIn w x y m.path
 last:Rd w l m.last
theorem MIn.kp {w w':World}{t o x y l:Value}{m:Md}(h:MIn w t o x y l m)(k:Kp w w'):MIn w' t o x y l m:=⟨h.tree.kp k,ar4.kp h.own k,h.path.kp k,h.last.kp k⟩
def MV (w:World)(v:Value)(m:Md):Prop:=∃ t o x y l,v=.agg #[t,o,x,y,l]∧MIn w t o x y l m
theorem MIn.none (w:World):MIn w (.slice none 0 0) (.slice none 0 0) (.slice none 0 0) (.slice none 0 0) (.slice none 0 0) noMd:=⟨NL.nil w,ar4.nil w,⟨aaQ w,ar4.nil w⟩,aaQ w⟩
theorem aa2:(Tryz.prog.info? 47).map (·.size)=some 5:=by kernel_rfl
theorem one5 {a1 a2 a3 a4 a5:Option Addr}{n1 n2 n3 n4 n5 c1 c2 c3 c4 c5:Nat}:∀ z∈[Value.slice a1 n1 c1,.slice a2 n2 c2,.slice a3 n3 c3,.slice a4 n4 c4,.slice a5 n5 c5],z.oneCell'=true:=by
 intro z hz;simp only[List.mem_cons,List.not_mem_nil,or_false] at hz;rcases hz with rfl | rfl | rfl | rfl | rfl <;> rfl
theorem aoN {t:List Nod}{K i me:Nat}{own:List Sd}(hr:aab t K)(hki:(ats t (2*i)).kind=1)(hne:i≠me)(hs:aaI t K (me:Int) own):
  kM t i me<(aaa t i K).length∧(aaa t i K).getD (kM t i me) 0=coN i me∧∀ j,j<kM t i me→(aaa t i K).getD j 0≠coN i me:=by
 have hkm:=(hr.there_iff me).1 hs.1;have hlen:=hr.len2;have hi:i<2 ^ K:=by have:=aab.lt_of (t:=t) (x:=2*i) (by rw[hki];decide);omega
 have hm:me<2 ^ K:=by have:=aab.lt_of (t:=t) (x:=2*me) (by rw[hkm];decide);omega
 obtain ⟨m1,m2,_,_⟩:=ab4 hr.le hi hm hne;obtain ⟨y,hy,hyk⟩:=age hr hi hkm hm hne hs;obtain ⟨k1,k2,k3,k4⟩:=apB (K:=K) ⟨m1,m2⟩ (List.length_pos_of_mem hy);have hl:=(aax t i K).1;refine ⟨by omega,k4,fun j hj e=>?_⟩;have hnd:=abg t i K;have e2:(aaa t i K).getD j 0=(aaa t i K).getD (kM t i me) 0:=e.trans k4.symm;rw[List.getD_eq_getElem?_getD,List.getD_eq_getElem?_getD,List.getElem?_eq_getElem (by omega),List.getElem?_eq_getElem (by omega)] at e2;exact List.pairwise_iff_getElem.1 hnd j (kM t i me) (by omega) (by omega) hj e2
theorem ar7 {l:List Nat}{a b:Nat}:(l.drop a).getD b 0=l.getD (a+b) 0:=by
 rw[List.getD_eq_getElem?_getD,List.getD_eq_getElem?_getD,List.getElem?_drop]
end Go.Proofs.YthmhklmkgkfcpaaGreatDoor
