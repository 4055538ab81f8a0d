import Derived.Test.YthmhklmkgkfcpaaGreatDoorU4
import Derived.Test.YthmhklmkgkfcpaaGreatDoorU8
import Derived.Test.YthmhklmkgkfcpaaGreatDoorU9
import Derived.RangeFuncBox
import Derived.Maps.OwnIn
set_option linter.unusedVariables false
set_option linter.unusedSimpArgs false
set_option maxHeartbeats 8000000
set_option maxRecDepth 100000
namespace Go.Proofs.YthmhklmkgkfcpaaGreatDoor
open Go.RowKit Go.ChangeShapes Go.WideShapes Go.Deep
def Vals (w:World)(v:Value)(us:List Value):Prop:=
 ∃ a c,v=.slice a us.length c∧us.length≤c∧c≤maxLen∧(a=none→c=0) ∧
  ∀ x,a=some x→∀ i,(h:i<us.length)→w.cell? (x.add i)=some (us[i]'h)
theorem Vals.kp {w w':World}{v:Value}{us:List Value}(h:Vals w v us)(k:Kp w w'):Vals w' v us:=by
 obtain ⟨a,c,rfl,h1,h2,h3,h4⟩:=h;exact ⟨a,c,rfl,h1,h2,h3,fun x hx i hi=>k.cell (h4 x hx i hi)⟩
theorem Vals.shape {w:World}{v:Value}{us:List Value}(h:Vals w v us):∃ a c,v=.slice a us.length c∧us.length≤c∧c≤maxLen:=by
 obtain ⟨a,c,e,h1,h2,_⟩:=h;exact ⟨a,c,e,h1,h2⟩
theorem Vals.nil (w:World):Vals w (.slice none 0 0) []:=⟨none,0,rfl,Nat.le_refl _,Nat.zero_le _,fun _=>rfl,fun x hx=>by cases hx⟩
theorem Vals.at {w:World}{a:Option Addr}{n c:Nat}{us:List Value}(h:Vals w (.slice a n c) us)(k:Nat)(hk:k<n):
  ∃ b off,a=some ⟨b,off,none⟩∧b<w.heap.size∧∀ i,i<n→w.cell? ⟨b,off+i,none⟩=some (us.getD i (.bool false)):=by
 obtain ⟨a',c',e,h1,h2,h3,h4⟩:=h
 simp only[Value.slice.injEq] at e
 obtain ⟨rfl,rfl,rfl⟩:=e
 cases a with
 | none=>have:=h3 rfl;omega
 | some x=>
  obtain ⟨b,off,spot⟩:=x
  have h0:=h4 _ rfl 0 (by omega)
  have hs:spot=none:=by simpa [Addr.add] using World.cell?_spot h0
  subst hs
  refine ⟨b,off,rfl,World.block_lt_of_cell? w _ h0,fun i hi=>?_⟩
  have:=h4 _ rfl i hi
  rw[List.getD_eq_getElem?_getD,List.getElem?_eq_getElem hi,Option.getD_some,← this]
  congr 1
  unfold Addr.add
  split <;> simp_all
theorem Vals.own {w:World}{B:Nat}{e:TypeId}{v:Value}{us:List Value}(h:w.ownsRow B e 1 v us.length us):Vals w v us:=by
 rcases h.2 with ⟨rfl,h0⟩ | ⟨g,cap,cur,rfl,hb,hg,hn,hm,hs,ht⟩
 ·exact ⟨none,0,by rw[h0],by omega,Nat.zero_le _,fun _=>rfl,fun x hx=>by cases hx⟩
 ·refine ⟨_,cap,rfl,hn,hm,fun h=>(by cases h),fun x hx i hi=>?_⟩
  cases hx;have e:(⟨g,0,none⟩:Addr).add i=⟨g,i,none⟩:=by unfold Addr.add;split <;> simp_all
  rw[e,cell_of_row w g i _ _ _ hg];have hx:us[i]?=some us[i]:=List.getElem?_eq_getElem hi;rw[← hx,← ht,List.getElem?_take_of_lt (by omega)];simp
def RL (w:World)(v:Value)(ls:List (List UInt8)):Prop:=∃ us,Vals w v us∧us.length=ls.length∧∀ i,i<ls.length→Rd w (us.getD i (.bool false)) (ls.getD i [])
theorem RL.kp {w w':World}{v:Value}{ls:List (List UInt8)}(h:RL w v ls)(k:Kp w w'):RL w' v ls:=by
 obtain ⟨us,h1,h2,h3⟩:=h;exact ⟨us,h1.kp k,h2,fun i hi=>(h3 i hi).kp k⟩
theorem RL.shape {w:World}{v:Value}{ls:List (List UInt8)}(h:RL w v ls):∃ a c,v=.slice a ls.length c∧ls.length≤c∧c≤maxLen:=by
 obtain ⟨us,h1,h2,h3⟩:=h;rw[← h2];exact h1.shape
theorem RL.at {w:World}{a:Option Addr}{n c:Nat}{ls:List (List UInt8)}(h:RL w (.slice a n c) ls)(k:Nat)(hk:k<n):
  ∃ b off,a=some ⟨b,off,none⟩∧b<w.heap.size∧∀ i,i<n→∃ u,w.cell? ⟨b,off+i,none⟩=some u∧Rd w u (ls.getD i []):=by
 obtain ⟨us,h1,h2,h3⟩:=h;obtain ⟨b,off,ha,hb,hc⟩:=h1.at k hk;have hn:n=us.length:=by
  obtain ⟨a',c',e,_⟩:=h1.shape;simp only[Value.slice.injEq] at e;exact e.2.1
 exact ⟨b,off,ha,hb,fun i hi=>⟨_,hc i hi,h3 i (by omega)⟩⟩
theorem RL.cons {w:World}{B:Nat}{e:TypeId}{v u:Value}{l:List UInt8}{us:List Value}{ls:List (List UInt8)}(h:w.ownsRow B e 1 v (u :: us).length (u :: us))(hu:Rd w u l)(hl:us.length=ls.length)
  (hr:∀ i,i<ls.length→Rd w (us.getD i (.bool false)) (ls.getD i [])):RL w v (l :: ls):=by
 refine ⟨u :: us,Vals.own h,by simp[hl],fun i hi=>?_⟩
 cases i with
 | zero=>simpa using hu
 | succ i=>simpa using hr i (by simpa using hi)
section
variable {H : Type} {enc : TypeId × Value → H} {P : Program} {w : World} {base : Nat} {spare : Nat → Bool} {held : Bool}
end
end Go.Proofs.YthmhklmkgkfcpaaGreatDoor
namespace Go.Proofs.YthmhklmkgkfcpaaGreatDoor
open Go.RowKit
structure arJ (P:Program)(t e:TypeId):Prop where
 ht:P.underlying t=some (.slice e)
 hi:∃ i z,P.info? e=some i∧i.zero=some z∧i.size=1∧i.bytes≤64∧z.cells.size=1
theorem arJ.mk' {P:Program}{t e:TypeId}{z:Value}{b:Nat}(ht:P.underlying t=some (.slice e))(h:(P.info? e).map (fun i=>(i.zero,i.size,i.bytes))=some (some z,1,b))(hb:b≤64)(hz:z.cells.size=1):arJ P t e:=by
 obtain ⟨i,hi,hz0,hz1,hz2⟩:=info_parts h;exact ⟨ht,i,z,hi,hz0,hz1,by omega,hz⟩
theorem abM {P:Program}{w:World}{t e:TypeId}(S:arJ P t e){ops:Array Oper}{rest:List Oper}{o:Oper}{a:Act}{Q:Exit→Act→World→Prop}(hgd:o.guard=none)(s x:Operand)
  (ho:o.op=.call { callee:=.builtin .append,args:=#[s,x],argTypes:=#[t,t] })
  (B:Nat) (v:Value) (us:List Value) (hs:a.eval s=v) (hown:w.ownsRow B e 1 v us.length us) (u:Value) (ms:List Value) (hx:a.eval x=u) (hu:Vals w u ms) (h1:∀ z∈ms,z.oneCell'=true)
  (hlen:us.length+ms.length≤1000000000000) (hbase:B≤w.heap.size)
  (h:∀ v' w',w'.ownsRow B e 1 v' (us++ms).length (us++ms)→w.grownBy w' v.ownBlock→wpList P ops Q rest (a.put o.dst v') w'):wpList P ops Q (o :: rest) a w:=by
 obtain ⟨i,z,hi,hz,hsize,hby,hzc⟩:=S.hi
 obtain ⟨ad,c,rfl,hc,hm,hnil,hcell⟩:=hu
 cases ad with
 | none=>
  have hc0:=hnil rfl
  have hm0:ms=[]:=List.eq_nil_of_length_eq_zero (by omega)
  subst hm0
  subst hc0
  refine wpList_append_own_none hgd s x t ho B e i 1 S.ht hi v us.length us hs hown hx ?_
  exact h v w (by simpa using hown) ⟨rfl,rfl,rfl,Nat.le_refl _,fun _ _ _=>rfl⟩
 | some ad=>
  refine wpList_append_own w hgd s x t ho B e i z 1 i.bytes S.ht hi hz hsize rfl hzc (by decide) v us.length us hs hown ad ms.length c ms hx (by omega) (fun j y hj=>?_) h1 (by unfold maxLen;omega) ?_ hbase
   (fun v' w' h1 h2 h3=>h v' w' (by rw[List.length_append];exact h1) h2)
  ·have hjl:j<ms.length:=(List.getElem?_eq_some_iff.1 hj).1
   rw[List.getElem?_eq_getElem hjl] at hj
   cases hj
   exact hcell ad rfl j hjl
  ·have:=Nat.mul_le_mul hlen hby
   omega
theorem Rd.one {w:World}{v:Value}{l:List UInt8}(h:Rd w v l):v.oneCell'=true:=by
 obtain ⟨a,c,rfl,_⟩:=h.shape;rfl
theorem af3 (w:World)(e:TypeId)(u:Value):(w.alloc (.cells #[u] e)).ownsRow w.heap.size e 1 (.slice (some ⟨w.heap.size,0,none⟩) 1 1) [u].length [u]:=
 World.ownsRow_lit w #[u] 1 (Nat.le_refl _) (by unfold maxLen;omega) rfl
def iv (n:Nat):Value:=.int .i64 (n:Int)
def RN (w:World)(v:Value)(l:List Nat):Prop:=Vals w v (l.map iv)
def ON (e:TypeId)(w:World)(B:Nat)(v:Value)(l:List Nat):Prop:=w.ownsRow B e 1 v (l.map iv).length (l.map iv)
theorem RN.kp {w w':World}{v:Value}{l:List Nat}(h:RN w v l)(k:Kp w w'):RN w' v l:=Vals.kp h k
theorem RN.nil (w:World):RN w (.slice none 0 0) []:=Vals.nil w
theorem RN.shape {w:World}{v:Value}{l:List Nat}(h:RN w v l):∃ a c,v=.slice a l.length c∧l.length≤c∧c≤maxLen:=by
 have:=Vals.shape h;rwa [List.length_map] at this
theorem RN.at {w:World}{a:Option Addr}{n c:Nat}{l:List Nat}(h:RN w (.slice a n c) l)(k:Nat)(hk:k<n):
  ∃ b off,a=some ⟨b,off,none⟩∧b<w.heap.size∧∀ i,i<n→w.cell? ⟨b,off+i,none⟩=some (.int .i64 ((l.getD i 0:Nat):Int)):=by
 obtain ⟨b,off,ha,hb,hc⟩:=Vals.at h k hk;have hn:n=l.length:=by
  obtain ⟨a',c',e,_⟩:=h.shape;simp only[Value.slice.injEq] at e;exact e.2.1
 refine ⟨b,off,ha,hb,fun i hi=>?_⟩;rw[hc i hi,List.getD_eq_getElem?_getD,List.getElem?_map,List.getElem?_eq_getElem (by omega),List.getD_eq_getElem?_getD,List.getElem?_eq_getElem (by omega)];rfl
theorem ON.rn {e:TypeId}{w:World}{B:Nat}{v:Value}{l:List Nat}(h:ON e w B v l):RN w v l:=Vals.own h
theorem ON.nil (e:TypeId)(w:World)(B:Nat):ON e w B (.slice none 0 0) []:=World.ownsRow_nil _ _ _ _
theorem ON.kp {e:TypeId}{w w':World}{B:Nat}{v:Value}{l:List Nat}(h:ON e w B v l)(k:Kp w w'):ON e w' B v l:=by
 refine ⟨h.1,?_⟩;rcases h.2 with hn | ⟨g,cap,cur,rfl,hb,hg,rest⟩
 ·exact .inl hn
 ·exact .inr ⟨g,cap,cur,rfl,hb,(Below.block k g (Array.getElem?_eq_some_iff.1 hg).1).trans hg,rest⟩
theorem ON.own_ge {e:TypeId}{w:World}{B:Nat}{v:Value}{l:List Nat}(h:ON e w B v l):∀ k,v.ownBlock=some k→B≤k:=fun k hk=>(World.ownsRow.lt h k hk).1
theorem RN.sl {w:World}{v:Value}{l:List Nat}(h:RN w v l):∃ a n c,v=.slice a n c:=by
 obtain ⟨a,c,e,_⟩:=h.shape;exact ⟨_,_,_,e⟩
theorem ON.lit1 (w:World)(e:TypeId)(n:Nat):RN (w.alloc (.cells #[.int .i64 (n:Int)] e)) (.slice (some ⟨w.heap.size,0,none⟩) 1 1) [n]:=
 Vals.own (af3 w e (iv n))
theorem adM {P:Program}{w:World}{t e:TypeId}(S:arJ P t e){ops:Array Oper}{rest:List Oper}{o:Oper}{a:Act}{Q:Exit→Act→World→Prop}(hgd:o.guard=none)(s x:Operand)
  (ho:o.op=.call { callee:=.builtin .append,args:=#[s,x],argTypes:=#[t,t] })
  (B:Nat) (v:Value) (l:List Nat) (hs:a.eval s=v) (hown:ON e w B v l) (u:Value) (n:Nat) (hx:a.eval x=u) (hu:RN w u [n]) (hlen:l.length≤1000000) (hbase:B≤w.heap.size)
  (h:∀ v' w',ON e w' B v' (l++[n])→w.grownBy w' v.ownBlock→wpList P ops Q rest (a.put o.dst v') w'):wpList P ops Q (o :: rest) a w:=by
 refine abM S hgd s x ho B v (l.map iv) hs hown u [iv n] hx hu (fun z hz=>by simp at hz;subst hz;rfl) (by rw[List.length_map];simp;omega) hbase (fun v' w' h1 h2=>h v' w' ?_ h2);unfold ON;rw[List.map_append];exact h1
def nI (n:Int):Value:=.int .i64 n
def RI (w:World)(v:Value)(l:List Int):Prop:=Vals w v (l.map nI)
def OI (e:TypeId)(w:World)(B:Nat)(v:Value)(l:List Int):Prop:=w.ownsRow B e 1 v (l.map nI).length (l.map nI)
theorem RI.kp {w w':World}{v:Value}{l:List Int}(h:RI w v l)(k:Kp w w'):RI w' v l:=Vals.kp h k
theorem RI.nil (w:World):RI w (.slice none 0 0) []:=Vals.nil w
theorem RI.shape {w:World}{v:Value}{l:List Int}(h:RI w v l):∃ a c,v=.slice a l.length c∧l.length≤c∧c≤maxLen:=by
 have:=Vals.shape h;rwa [List.length_map] at this
theorem RI.sl {w:World}{v:Value}{l:List Int}(h:RI w v l):∃ a n c,v=.slice a n c:=by
 obtain ⟨a,c,e,_⟩:=h.shape;exact ⟨_,_,_,e⟩
theorem RI.at {w:World}{a:Option Addr}{n c:Nat}{l:List Int}(h:RI w (.slice a n c) l)(k:Nat)(hk:k<n):
  ∃ b off,a=some ⟨b,off,none⟩∧b<w.heap.size∧∀ i,i<n→w.cell? ⟨b,off+i,none⟩=some (.int .i64 (l.getD i 0)):=by
 obtain ⟨b,off,ha,hb,hc⟩:=Vals.at h k hk;have hn:n=l.length:=by
  obtain ⟨a',c',e,_⟩:=h.shape;simp only[Value.slice.injEq] at e;exact e.2.1
 refine ⟨b,off,ha,hb,fun i hi=>?_⟩;rw[hc i hi,List.getD_eq_getElem?_getD,List.getElem?_map,List.getElem?_eq_getElem (by omega),List.getD_eq_getElem?_getD,List.getElem?_eq_getElem (by omega)];rfl
theorem RN.ri {w:World}{v:Value}{l:List Nat}(h:RN w v l):RI w v (l.map fun (n:Nat)=>(n:Int)):=by
 unfold RI;rw[List.map_map];exact h
theorem ON.oi {e:TypeId}{w:World}{B:Nat}{v:Value}{l:List Nat}(h:ON e w B v l):OI e w B v (l.map fun (n:Nat)=>(n:Int)):=by
 unfold OI;rw[List.map_map];exact h
theorem OI.ri {e:TypeId}{w:World}{B:Nat}{v:Value}{l:List Int}(h:OI e w B v l):RI w v l:=Vals.own h
theorem OI.nil (e:TypeId)(w:World)(B:Nat):OI e w B (.slice none 0 0) []:=World.ownsRow_nil _ _ _ _
theorem adf {w w':World}{B C:Nat}{e:TypeId}{n:Nat}{v:Value}{us:List Value}(h:w.ownsRow B e C v n us)(k:Kp w w'):w'.ownsRow B e C v n us:=by
 refine ⟨h.1,?_⟩;rcases h.2 with hn | ⟨g,cap,cur,rfl,hb,hg,rest⟩
 ·exact .inl hn
 ·exact .inr ⟨g,cap,cur,rfl,hb,(Below.block k g (Array.getElem?_eq_some_iff.1 hg).1).trans hg,rest⟩
theorem OI.kp {e:TypeId}{w w':World}{B:Nat}{v:Value}{l:List Int}(h:OI e w B v l)(k:Kp w w'):OI e w' B v l:=adf h k
theorem OI.mono {e:TypeId}{w:World}{B C:Nat}{v:Value}{l:List Int}(h:OI e w B v l)(hb:C≤B):OI e w C v l:=by
 refine ⟨h.1,?_⟩;rcases h.2 with hn | ⟨g,cap,cur,e1,h1,rest⟩
 ·exact .inl hn
 ·exact .inr ⟨g,cap,cur,e1,by omega,rest⟩
theorem OI.lt {e:TypeId}{w:World}{B:Nat}{v:Value}{l:List Int}(h:OI e w B v l):∀ k,v.ownBlock=some k→B≤k∧k<w.heap.size:=fun k hk=>World.ownsRow.lt h k hk
theorem RI.lit (w:World)(e:TypeId)(cs:Array Value)(l:List Int)(n:Nat)(hn:l.length=n)(hm:n≤1000000)(hc:cs.toList=l.map nI):
  OI e (w.alloc (.cells cs e)) w.heap.size (.slice (some ⟨w.heap.size,0,none⟩) n n) l:=by
 subst hn;have hl:(l.map nI).length=l.length:=List.length_map ..;unfold OI;rw[hl];have h2:(w.alloc (.cells cs e)).ownsRow w.heap.size e 1 (.slice (some ⟨w.heap.size,0,none⟩) l.length l.length) l.length cs.toList:=
  World.ownsRow_lit w cs l.length (Nat.le_refl _) (by unfold maxLen;omega) (by rw[← Array.length_toList,hc,hl];omega)
 rw[hc] at h2;exact h2
theorem aaw {P:Program}{w:World}{t e:TypeId}(S:arJ P t e){ops:Array Oper}{rest:List Oper}{o:Oper}{a:Act}{Q:Exit→Act→World→Prop}(hgd:o.guard=none)(s x:Operand)
  (ho:o.op=.call { callee:=.builtin .append,args:=#[s,x],argTypes:=#[t,t] })
  (B:Nat) (v:Value) (l:List Int) (hs:a.eval s=v) (hown:OI e w B v l) (u:Value) (m:List Int) (hx:a.eval x=u) (hu:RI w u m) (hlen:l.length+m.length≤1000000) (hbase:B≤w.heap.size)
  (h:∀ v' w',OI e w' B v' (l++m)→w.grownBy w' v.ownBlock→wpList P ops Q rest (a.put o.dst v') w'):wpList P ops Q (o :: rest) a w:=by
 refine abM S hgd s x ho B v (l.map nI) hs hown u (m.map nI) hx hu (fun z hz=>?_) (by rw[List.length_map,List.length_map];omega) hbase (fun v' w' h1 h2=>h v' w' ?_ h2)
 ·obtain ⟨n,_,rfl⟩:=List.mem_map.1 hz
  rfl
 ·unfold OI
  rw[List.map_append];exact h1
theorem anB (ls:List (List UInt8))(k:Nat)(h:k<ls.length):(ls.take (k+1)).flatten=(ls.take k).flatten++ls.getD k []:=by
 rw[List.take_succ_eq_append_getElem h,List.flatten_append,List.getD_eq_getElem?_getD,List.getElem?_eq_getElem h];simp
theorem aqq (ls:List (List UInt8))(k:Nat):(ls.take k).flatten.length≤ls.flatten.length:=by
 have e:ls.flatten=(ls.take k).flatten++(ls.drop k).flatten:=by rw[← List.flatten_append,List.take_append_drop]
 rw[e,List.length_append];omega
theorem ab0 (v:Value)(ls:List (List UInt8))(w:World)(h:RL w v ls)(hp:0<ls.flatten.length)(hb:ls.flatten.length≤1000000)(hn:ls.length≤1000000):
  Calls Tryz.prog 168 #[v] w fun e w'=>(∃ v,e=.returned v∧Ow 5 w' w.heap.size v ls.flatten)∧Kp w w':=by
 have U:=arN;obtain ⟨a,c,rfl,h1,h2⟩:=h.shape;unfold maxLen at h2;have HG:=Lib.hid (alm ls.flatten.length w hp hb);have HF:=Lib.hid (anB ls);have HL:=Lib.hid (aqq ls);have hall:(ls.take ls.length).flatten=ls.flatten:=by rw[List.take_length]
 have HA:=Lib.hid hall;clear hall;go_enter Tryz.func168,Tryz.ntmps168;go_wp2_with fail;go_loopw[3,11] (fun s i wr=>(∃ k:Nat,k≤ls.length∧i=.int .i64 k∧s=.int .i64 ((ls.take k).flatten.length:Int))∧wr=w) (fun _ i _=>ls.length - (intOf i).toNat)
 case atStart=>exact ⟨⟨0,by omega,rfl,rfl⟩,rfl⟩
 case round=>
  obtain ⟨⟨k,hk,rfl,rfl⟩,rfl⟩:=hrel;rename World=>w
  by_cases hlt:k<ls.length
  ·obtain ⟨b,off,rfl,_,hcell⟩:=h.at k hlt
   obtain ⟨arO,hcu,hru⟩:=hcell k hlt;obtain ⟨au,cu,rfl,p1,p2⟩:=hru.shape;have hs:=congrArg List.length (HF.out k hlt);rw[List.length_append] at hs;have hle:=HL.out (k+1);obtain ⟨N,hN⟩:∃ N,(ls.take k).flatten.length=N:=⟨_,rfl⟩;obtain ⟨M,hM⟩:∃ M,(ls.getD k []).length=M:=⟨_,rfl⟩;obtain ⟨T,hT⟩:∃ T,(ls.take (k+1)).flatten.length=T:=⟨_,rfl⟩;rw[hN,hM,hT] at hs;rw[hT] at hle;rw[hM] at hcu p1;rw[hN];have b1:(N:Int)+(M:Int)≤1000000:=by omega
   have HT:=Lib.hid (show (T:Int)=(N:Int)+(M:Int) by omega);have HT2:=Lib.hid hT;unfold maxLen at p2;clear hcell hru hs hN hM hT HG;go_wp2_with fail;go_roundw
   case rel=>exact ⟨⟨k+1,by omega,by go_num,by rw[HT2.out,HT.out]⟩,trivial⟩
   case measure=>simp[intOf];omega
  ·obtain rfl:k=ls.length:=by omega
   rw[HA.out];obtain ⟨F,hF⟩:∃ F,ls.flatten.length=F:=⟨_,rfl⟩;rw[hF] at HG hp hb;rw[hF];have HFL:=Lib.hid hF;clear hF;go_wp2_with fail;refine HG.out.mono ?_;rintro e w1 ⟨⟨v,rfl,ho⟩,hk1⟩;go_wp2_with fail;go_loopw[6,27] (fun arO i wq=>(∃ k:Nat,k≤ls.length∧i=.int .i64 k∧Ow 5 wq w.heap.size arO (ls.take k).flatten)∧Kp w wq) (fun _ i _=>ls.length - (intOf i).toNat)
   case atStart=>exact ⟨⟨0,by omega,rfl,ho⟩,hk1⟩
   case round=>
    clear ho hk1;obtain ⟨⟨k,hk,rfl,ho⟩,hkp⟩:=hrel;by_cases hlt:k<ls.length
    ·obtain ⟨b,off,rfl,_,hcell⟩:=h.at k hlt
     obtain ⟨arO,hcu,hru⟩:=hcell k hlt;have hcu':=hkp.cell hcu;have hru':=hru.kp hkp;obtain ⟨au,cu,rfl,p1,p2⟩:=hru.shape;have hs:=congrArg List.length (HF.out k hlt);rw[List.length_append] at hs;have hle:=HL.out (k+1);rw[HFL.out] at hle;have hle2:(List.take k ls).flatten.length+(ls.getD k []).length≤1000000:=by omega
     have hsz:=hkp.size;have HFK:=Lib.hid (HF.out k hlt);obtain ⟨X,hX⟩:∃ X,ls.getD k []=X:=⟨_,rfl⟩;obtain ⟨Y,hY⟩:∃ Y,(ls.take k).flatten=Y:=⟨_,rfl⟩;rw[hX] at hcu' hru' p1 hle2 HFK;rw[hY] at ho hle2 HFK;unfold maxLen at p2;clear hcell hru hs hcu hle HG hX hY;go_wp2_with (at_builtin;refine aae U rfl _ _ rfl w.heap.size _ _ rfl ho _ X rfl hru' ?c1 hsz ?_;rotate_right;intro v' w2 ho2 hg2 _)
     case c1=>omega
     go_roundw
     case rel=>exact ⟨⟨k+1,by omega,by go_num,by rw[HFK.out];exact ho2⟩,Kp.grown hkp hg2 ho.own_ge⟩
     case measure=>simp[intOf];omega
    ·obtain rfl:k=ls.length:=by omega
     rw[HA.out] at ho;go_wp2_with fail;go_ret;exact ⟨⟨_,rfl,ho⟩,hkp⟩
section
variable {F : Fence} {n : Nat} {P : Program} {ops : Array Oper} {Q : Exit → Act → World → Prop} {md : Region.Mode} {S : World → Prop}
structure Calm (P:Program)(ops:Array Oper)(S:World→Prop)(o:Oper)(v:Value)(a:Act):Prop where
 nodefer:∀ c,o.op≠.defer c
 about:∀ w,o.about P w a.eval=none
 yields:(Region.wanted o (yielded ops a.tmps)=true∧∀ w,S w→(execOp a.eval o).run P w=.ok (.value v) w)∨(Region.wanted o (yielded ops a.tmps)=false∧v=undef)
def aip (ops:Array Oper):Bool:=ops.all fun o=>match o.op with | .defer _=>false | _=>true
theorem ajx (h:aip ops=true){j:Nat}{o:Oper}(hj:ops[j]?=some o):∀ c,o.op≠.defer c:=fun c e=>by
 have:=Array.all_eq_true_iff_forall_mem.1 h o (Array.mem_of_getElem? hj);rw[e] at this;cases this
theorem Calm.put {o oj:Oper}{v:Value}{a:Act}(h:Calm P ops S o v a)(hs:∀ cs b,o.op≠.select cs b)(u:Value)(hap:∀ d,oj.dst=some d→d∉o.looksAt ops):Calm P ops S o v (a.put oj.dst u):=by
 obtain ⟨h1,h2,h3⟩:=h;refine ⟨h1,fun w=>(about_put o w a oj.dst u hap).trans (h2 w),?_⟩;rw[wanted_put o a oj.dst u hap,execOp_put o hs a oj.dst u hap];exact h3
theorem Calm.run {o:Oper}{i:Nat}{v:Value}{a:Act}{w:World}{K:Act→World→Prop}(h:Calm P ops S o v a)(hi:ops[i]?=some o)(hS:S w)(hK:K (a.put o.dst v) w):wpOpIn F n P ops Q i K a w:=by
 have hab:∀ f,o.about P w a.eval=some f→F.fn f:=fun f hf=>by rw[h.about w] at hf;cases hf
 unfold wpOpIn;simp only[hi];rcases h.yields with ⟨hw,hv⟩ | ⟨hw,rfl⟩
 ·rw[if_pos hw]
  exact ⟨hab,by rw[Oper.semAt_plain F _ _ h.nodefer,hv w hS];exact hK⟩
 ·rw[if_neg (by rw[hw];decide)]
  exact ⟨hab,hK⟩
theorem Calm.later {j:Nat}{o oj:Oper}{v:Value}{a:Act}{w:World}{K:Act→World→Prop}(h:Calm P ops S o v a)(hnd:aip ops=true)(hns:Region.noSelect ops=true){i:Nat}(hi:ops[i]?=some o)(hj:ops[j]?=some oj)
  (hap:o.apart ops oj=true) (hQ:∀ c a w,Q (.panic c) (a.put o.dst v) w→Q (.panic c) a w) (hh:wpOpIn F n P ops Q j K (a.put o.dst v) w):
  wpOpIn F n P ops Q j (fun a' w'=>Calm P ops S o v a'∧K (a'.put o.dst v) w') a w:=by
 obtain ⟨p1,p2,p3⟩:=Oper.apart_spec hap;have hsj:=fun cs b=>Region.noSelect_spec hns j oj cs b hj
 have hsi:=fun cs b=>Region.noSelect_spec hns i o cs b hi
 have hd:=ajx hnd hj;have back:∀ u w',K ((a.put o.dst v).put oj.dst u) w'→Calm P ops S o v (a.put oj.dst u)∧K ((a.put oj.dst u).put o.dst v) w':=fun u w' hk=>⟨h.put hsi u p3,by rw[← Act.put_comm a v u p2];exact hk⟩
 unfold wpOpIn at *;simp only[hj] at *;rw[wanted_put oj a o.dst v p1,about_put oj w a o.dst v p1] at hh;by_cases hw:Region.wanted oj (yielded ops a.tmps)=true
 ·rw[if_pos hw] at hh ⊢
  unfold Oper.wpIn at *;rw[Oper.semAt_plain F _ _ hd,about_put oj w a o.dst v p1,execOp_put oj hsj a o.dst v p1] at hh;refine ⟨hh.1,?_⟩;rw[Oper.semAt_plain F _ _ hd];have h2:=hh.2;obtain ⟨r,hr⟩:∃ r,(execOp a.eval oj).run P w=r:=⟨_,rfl⟩;rw[hr] at h2 ⊢;match r,h2 with
  | .ok (.value u) w',h2=>exact back u w' h2
  | .ok .skip w',h2=>exact back undef w' h2
  | .ok (.defer d) w',h2=>
   refine ⟨Calm.put (a:={ a with defers:=d :: a.defers }) (oj:=oj) ⟨h.nodefer,h.about,h.yields⟩ hsi undef p3,?_⟩;rw[← Act.put_comm _ v undef p2,← Act.put_defers];exact h2
  | .ok (.enter f args) w',h2=>
   refine ⟨h2.1,h2.2.mono fun e w'' he=>?_⟩;match e,he with
   | .returned u,he=>exact back u w'' he
   | .panicked c,he=>exact hQ _ _ _ he
   | .outgrown,he=>exact he
  | .ok (.row row args) w',h2=>exact ⟨h2.1,h2.2.mono fun u w'' he=>back u w'' he⟩
  | .ok (.round l f tmps assign body) w',h2=>
   refine ⟨h2.1,h2.2.mono fun e w'' he=>?_⟩;match e,he with
   | .returned u,he=>exact back u w'' he
   | .panicked c,he=>exact hQ _ _ _ he
   | .outgrown,he=>exact he
  | .halt (.panic u) w',h2=>exact hQ _ _ _ h2
 ·rw[if_neg hw] at hh ⊢
  exact ⟨hh.1,back undef w hh.2⟩
def aaU (F:Fence)(n:Nat)(P:Program)(md:Region.Mode)(ops:Array Oper)(Q:Exit→Act→World→Prop)(S:World→Prop):Nat→Array Bool→Act→World→Prop
 | 0,listed,a,w=>Region.ready md ops listed=[]∧Q .normal a w
 | fuel+1,listed,a,w=>
  (Region.ready md ops listed=[]→Q .normal a w) ∧
  ∀ i∈Region.ready md ops listed,wpOpIn F n P ops Q i (fun a' w'=>S w'∧aaU F n P md ops Q S fuel (listed.setIfInBounds i true) a' w') a w
theorem aaU.any:∀ (fuel:Nat) (listed:Array Bool) (a:Act) (w:World),aaU F n P md ops Q S fuel listed a w→wpAnyIn F n P md ops Q fuel listed a w
 | 0,_,_,_,h=>h
 | fuel+1,_,_,_,h=>⟨h.1,fun i hi=>wpOpIn_mono (fun a' w' h'=>aaU.any fuel _ a' w' h'.2) (h.2 i hi)⟩
theorem aaU.first {i:Nat}{o:Oper}{v:Value}(hnd:aip ops=true)(hns:Region.noSelect ops=true)(hi:ops[i]?=some o)(hQ:∀ c a w,Q (.panic c) (a.put o.dst v) w→Q (.panic c) a w):
  ∀ (fuel:Nat) (listed:Array Bool) (a:Act) (w:World),
   (∀ j oj,ops[j]?=some oj→j≠i→listed.getD j true=false→(∀ e∈oj.after,Region.binds md e=true→e.on≠i)→o.apart ops oj=true) →
   i∈Region.ready md ops listed→Calm P ops S o v a→S w→aaU F n P md ops Q S fuel (listed.setIfInBounds i true) (a.put o.dst v) w→aaU F n P md ops Q S (fuel+1) listed a w
 | fuel,listed,a,w,hfree,hr,hy,hS,H=>by
  refine ⟨fun h=>(by rw[h] at hr;cases hr),fun j hj=>?_⟩
  by_cases hji:j=i
  ·subst hji
   exact hy.run hi hS ⟨hS,H⟩
  ·have hj':=ready_mono (i:=i) hj hji
   match fuel,H with
   | 0,H=>rw[H.1] at hj';cases hj'
   | fuel+1,H=>
    obtain ⟨hjun,oj,hoj,hall⟩:=mem_ready.1 hj
    have hnot:∀ e∈oj.after,Region.binds md e=true→e.on≠i:=fun e he hb heq=>by
     have h1:=hall e he hb
     have h0:=(mem_ready.1 hr).1
     rw[heq] at h1
     rcases Nat.lt_or_ge i listed.size with h' | h'
     ·simp[h'] at h0 h1;rw[h0] at h1;cases h1
     ·simp[Array.getElem?_eq_none h'] at h1
    refine wpOpIn_mono ?_ (hy.later hnd hns hi hoj (hfree j oj hoj hji hjun hnot) hQ (H.2 j hj'))
    rintro a' w' ⟨hy',hS',H'⟩
    refine ⟨hS',aaU.first hnd hns hi hQ fuel (listed.setIfInBounds j true) a' w' (fun k ok hk hki hun hno=>?_) (ready_mono hr (Ne.symm hji)) hy' hS' ?_⟩
    ·refine hfree k ok hk hki ?_ hno
     by_cases hjk:j=k
     ·subst hjk;exact hjun
     ·rwa [getD_set_ne true hjk] at hun
    ·rw[Array.setIfInBounds_comm _ _ hji]
     exact H'
theorem ajy {id:Nat}{a:Act}{w:World}(hm:P.follows .mixedOrders=true)(h:aaU F n P .any ops Q S ops.size (Array.replicate ops.size false) a w.drew):(Code.region id ops true).wpIn F n P Q a w:=
 wpIn_region_any hm (aaU.any _ _ _ _ h)
theorem aaU.take (i:Nat)(v:Value){o:Oper}{fuel:Nat}{listed:Array Bool}{a:Act}{w:World}(hi:ops[i]?=some o)(hnd:aip ops=true)(hns:Region.noSelect ops=true)(hf:Region.free md ops listed i=true)
  (hr:(Region.ready md ops listed).contains i=true) (hQ:∀ c a w,Q (.panic c) (a.put o.dst v) w→Q (.panic c) a w) (hS:S w) (hy:Calm P ops S o v a)
  (h:aaU F n P md ops Q S fuel (listed.setIfInBounds i true) (a.put o.dst v) w):aaU F n P md ops Q S (fuel+1) listed a w:=
 aaU.first hnd hns hi hQ fuel listed a w (Region.free_spec hi hf) (by simpa using hr) hy hS h
theorem aaU.one (i:Nat){o:Oper}{fuel:Nat}{listed:Array Bool}{a:Act}{w:World}(hi:ops[i]?=some o)(hr:Region.ready md ops listed=[i])
  (h:∀ K:Act→World→Prop,(∀ a' w',S w'→aaU F n P md ops Q S fuel (listed.setIfInBounds i true) a' w'→K a' w')→if Region.wanted o (yielded ops a.tmps)=true then Oper.wpIn F n P o a w K Q else (∀ f,o.about P w a.eval=some f→F.fn f)∧K (a.put o.dst undef) w):
  aaU F n P md ops Q S (fuel+1) listed a w:=by
 refine ⟨fun h0=>(by rw[h0] at hr;cases hr),fun j hj=>?_⟩;rw[hr] at hj;obtain rfl:j=i:=by simpa using hj
 exact wpOpIn_step hi (fun K' hK=>h K' (fun a' w' hs hw=>hK a' w' ⟨hs,hw⟩))
theorem aaU.done {fuel:Nat}{listed:Array Bool}{a:Act}{w:World}(hr:Region.ready md ops listed=[])(h:Q .normal a w):aaU F n P md ops Q S fuel listed a w:=by
 cases fuel with
 | zero=>exact ⟨hr,h⟩
 | succ fuel=>exact ⟨fun _=>h,fun i hi=>by rw[hr] at hi;cases hi⟩
end
theorem aiO (A:World):Kp A A.drew:=Kp.drew (a:=A) (b:=A) (Kp.refl A)
def Apt (Z:Nat→Prop)(v:Value):Prop:=∀ g,v.ownBlock=some g→¬Z g
theorem adx {e:TypeId}{Y:Nat→Prop}{A A':World}{b k:Nat}{v:Value}{xs:List Value}(h:A.ownsRow b e 1 v k xs)(hs:Step Y A A')(ho:Apt Y v):A'.ownsRow b e 1 v k xs:=by
 refine ⟨h.1,?_⟩;rcases h.2 with hn | ⟨g,cap,cur,rfl,hb,hg,rest⟩
 ·exact .inl hn
 ·exact .inr ⟨g,cap,cur,rfl,hb,(hs.block g (Array.getElem?_eq_some_iff.1 hg).1 (ho g rfl)).trans hg,rest⟩
structure Coll (tS tE:TypeId)(w0:World)(R:Nat→Prop)(L:List Nat)(Y:Nat→Prop)(A:World)(v:Value):Prop where
 box:Boxed A w0.heap.size tS v
 own:ON tE A w0.heap.size v L
 apt:Apt (fun k=>Y k∨R k) v
 kp:Kp w0 A
theorem Coll.minds {tS tE:TypeId}{w0:World}{R:Nat→Prop}{L:List Nat}{B0:Nat}(hB:w0.heap.size<B0):acV B0 (fun Y A=>∃ v,Coll tS tE w0 R L Y A v):=by
 rintro Y Y' A A' ⟨v,h1,h2,h3,h4⟩ hY hs hg;have hnB:¬Y w0.heap.size:=fun h=>by have:=hY _ h;omega
 refine ⟨v,(hs.block _ h1.lt hnB).trans h1,adx h2 hs (fun g hg h=>h3 g hg (.inl h)),fun g hgv h=>?_,Below.trans h4 (hs.below h4.size (fun k hk=>by have:=hY k hk;omega))⟩;rcases h with h | h
 ·rcases hg g h with h5 | h5
  ·exact h3 g hgv (.inl h5)
  ·have:=(World.ownsRow.lt h2 g hgv).2;omega
 ·exact h3 g hgv (.inr h)
theorem Coll.next {tS tE:TypeId}(hte:tS≠tE){w0:World}{R:Nat→Prop}{L:List Nat}{x:Nat}{Y:Nat→Prop}{A w1:World}{v v':Value}{tmp:Obj}
  (h:Coll tS tE w0 R L Y A v) (hB:w0.heap.size<A.heap.size) (hYR:∀ k,Y k∨R k→k≠w0.heap.size∧k<A.heap.size)
  (ho:ON tE w1 w0.heap.size v' (L++[x])) (hg:(A.alloc tmp).grownBy w1 v.ownBlock) (hat:v'.ownBlock=v.ownBlock∨v'.ownBlock=some (A.alloc tmp).heap.size):
  w1.cell? ⟨w0.heap.size,0,none⟩=some v∧w1.frozen? ⟨w0.heap.size,0,none⟩=false∧Coll tS tE w0 R (L++[x]) Y (w1.setCell ⟨w0.heap.size,0,none⟩ v') v'∧Held (fun k=>Y k∨R k) A (w1.setCell ⟨w0.heap.size,0,none⟩ v'):=by
 obtain ⟨q1,q2,q3,_,q5⟩:=Boxed.appended h.box hte h.own (by omega) (Nat.le_refl _) ho hg;refine ⟨q1.cell,q1.frozen,⟨q2,q3,fun g hgv hz=>?_,Below.trans h.kp (q5.mono (Nat.le_refl _))⟩,⟨?_,fun k hk hr=>?_⟩⟩
 ·rcases hat with e | e
  ·exact h.apt g (e▸hgv) hz
  ·have h5:=hYR g hz
   rw[e] at hgv;simp at hgv;omega
 ·have:=q5.size;omega
 ·have h5:=hYR k hr
  refine (Below.heap_setCell w1 _ _ k (fun e=>h5.1 (by simpa using e))).trans ((hg.block k (by simp;omega) (fun e=>?_)).trans (Below.heap_alloc A _ k hk));exact h.apt k e.symm hr
theorem aaU.two {F:Fence}{n:Nat}{P:Program}{ops:Array Oper}{Q:Exit→Act→World→Prop}{md:Region.Mode}{S:World→Prop}(i j:Nat){o u:Oper}{fuel:Nat}{listed:Array Bool}{a:Act}{w:World}(hi:ops[i]?=some o)(hj:ops[j]?=some u)(hr:Region.ready md ops listed=[i,j])
  (h1:∀ K:Act→World→Prop,(∀ a' w',S w'→aaU F n P md ops Q S fuel (listed.setIfInBounds i true) a' w'→K a' w')→if Region.wanted o (yielded ops a.tmps)=true then Oper.wpIn F n P o a w K Q else (∀ f,o.about P w a.eval=some f→F.fn f)∧K (a.put o.dst undef) w)
  (h2:∀ K:Act→World→Prop,(∀ a' w',S w'→aaU F n P md ops Q S fuel (listed.setIfInBounds j true) a' w'→K a' w')→if Region.wanted u (yielded ops a.tmps)=true then Oper.wpIn F n P u a w K Q else (∀ f,u.about P w a.eval=some f→F.fn f)∧K (a.put u.dst undef) w):
  aaU F n P md ops Q S (fuel+1) listed a w:=by
 refine ⟨fun h0=>(by rw[h0] at hr;cases hr),fun k hk=>?_⟩;rw[hr] at hk;have hk2:k=i∨k=j:=by simpa using hk
 rcases hk2 with rfl | rfl
 ·exact wpOpIn_step hi (fun K' hK=>h1 K' (fun a' w' hs hw=>hK a' w' ⟨hs,hw⟩))
 ·exact wpOpIn_step hj (fun K' hK=>h2 K' (fun a' w' hs hw=>hK a' w' ⟨hs,hw⟩))
theorem afY {F:Fence}{n:Nat}{P:Program}{tS tE:TypeId}(S:arJ P tS tE)(hte:tS≠tE){o:Oper}{a:Act}{Kq:Act→World→Prop}{Q:Exit→Act→World→Prop}{w0:World}{R:Nat→Prop}{L:List Nat}{Y:Nat→Prop}{A:World}{v:Value}(s y:Operand)(x:Nat)
  (ho:o.op=.call { callee:=.builtin .append,args:=#[s,y],argTypes:=#[tS,tS] }) (hs:a.eval s=v) (hc:Coll tS tE w0 R L Y A v) (hy:a.eval y=.slice (some ⟨A.heap.size,0,none⟩) 1 1) (hL:L.length≤1000)
  (hYR:∀ k,Y k∨R k→k≠w0.heap.size∧k<A.heap.size)
  (hK:∀ g c w1,w1.cell? ⟨w0.heap.size,0,none⟩=some v→w1.frozen? ⟨w0.heap.size,0,none⟩=false→Coll tS tE w0 R (L++[x]) Y (w1.setCell ⟨w0.heap.size,0,none⟩ (.slice (some ⟨g,0,none⟩) (L.length+1) c)) (.slice (some ⟨g,0,none⟩) (L.length+1) c) →
   Held (fun k=>Y k∨R k) A (w1.setCell ⟨w0.heap.size,0,none⟩ (.slice (some ⟨g,0,none⟩) (L.length+1) c))→Kq (a.put o.dst (.slice (some ⟨g,0,none⟩) (L.length+1) c)) w1):
  Oper.wpIn F n P o a (A.alloc (.cells #[iv x] tE)) Kq Q:=by
 obtain ⟨i,z,hi,hz,hsize,hby,hzc⟩:=S.hi;have hAB:w0.heap.size<A.heap.size:=hc.box.lt;have hown:=ON.kp hc.own ((Kp.refl A).alloc (.cells #[iv x] tE));unfold ON at hown;rw[List.length_map] at hown;obtain ⟨v',w1,hr,h2,h3,_,h5⟩:=run_append_own_at (P:=P) _ w0.heap.size tS o.type tE i z 1 i.bytes S.ht hi hz hsize rfl hzc (by decide) v L.length (L.map iv) hown ⟨A.heap.size,0,none⟩ 1 1 [iv x] rfl (cell_one_new A _ _) (by intro u hu;simp at hu;subst hu;rfl) (by unfold maxLen;omega) (by have:=Nat.mul_le_mul (show L.length+1≤1001 by omega) hby;omega) (by simp;omega);obtain ⟨g,c,rfl⟩:=ownsRow_succ h2;obtain ⟨q1,q2,q3,q4⟩:=Coll.next hte hc hAB hYR (x:=x) (by unfold ON;rw[List.map_append,List.length_append,List.length_map];exact h2) h3 h5;unfold Oper.wpIn;refine ⟨by simp[Oper.about,ho,resolve,Target.leads,Sem.run_pure],?_⟩;rw[Oper.semAt_plain F _ _ (by rw[ho];intro c hc';cases hc')];simp[execOp,ho,resolve,invoke,builtin,hs,hy,hr,Result.andThen];exact hK _ _ _ q1 q2 q3 q4
theorem Coll.on {tS tE:TypeId}{w0:World}{R:Nat→Prop}{L:List Nat}{Y:Nat→Prop}{A A':World}{v:Value}(h:Coll tS tE w0 R L Y A v)(k:Kp A A'):Coll tS tE w0 R L Y A' v:=
 ⟨(k.block _ h.box.lt).trans h.box,ON.kp h.own k,h.apt,Below.trans h.kp (k.mono h.kp.size)⟩
theorem ab4 {F:Fence}{n:Nat}{P:Program}{tS tE:TypeId}(S:arJ P tS tE)(hte:tS≠tE){o:Oper}{a:Act}{Kq:Act→World→Prop}{Q:Exit→Act→World→Prop}{w0:World}{R:Nat→Prop}{L:List Nat}{Y:Nat→Prop}{A:World}{v:Value}(s y:Operand)(x:Nat)
  (ho:o.op=.call { callee:=.builtin .append,args:=#[s,y],argTypes:=#[tS,tS] }) (hc:Coll tS tE w0 R L Y A v) (hL:L.length≤1000)
  (hYR:∀ k,Y k∨R k→k≠w0.heap.size∧k<A.heap.size) (hs:a.eval s=v) (hy:a.eval y=.slice (some ⟨A.heap.size,0,none⟩) 1 1)
  (hK:∀ g c w1,w1.cell? ⟨w0.heap.size,0,none⟩=some v→w1.frozen? ⟨w0.heap.size,0,none⟩=false→Coll tS tE w0 R (L++[x]) Y (w1.setCell ⟨w0.heap.size,0,none⟩ (.slice (some ⟨g,0,none⟩) (L.length+1) c)) (.slice (some ⟨g,0,none⟩) (L.length+1) c) →
   Held (fun k=>Y k∨R k) A.drew (w1.setCell ⟨w0.heap.size,0,none⟩ (.slice (some ⟨g,0,none⟩) (L.length+1) c))→Kq (a.put o.dst (.slice (some ⟨g,0,none⟩) (L.length+1) c)) w1):
  Oper.wpIn F n P o a (A.alloc (.cells #[.int .i64 (x:Int)] tE)).drew Kq Q:=
 afY S hte s y x ho hs (hc.on (Kp.refl A).drew) hy hL hYR hK
end Go.Proofs.YthmhklmkgkfcpaaGreatDoor
