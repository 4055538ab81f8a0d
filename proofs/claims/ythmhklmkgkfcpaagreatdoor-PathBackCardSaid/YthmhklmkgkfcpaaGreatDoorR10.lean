import Derived.Test.YthmhklmkgkfcpaaGreatDoorR3
import Derived.Test.YthmhklmkgkfcpaaGreatDoorR4
import Derived.Test.YthmhklmkgkfcpaaGreatDoorR5
import Derived.Test.YthmhklmkgkfcpaaGreatDoorR9
import Derived.WalkSpells
import Derived.Lib.Hide
import Derived.Lib.LaidTab
import Derived.Stop.LaidErr
import Derived.Deep.DeepHandedRow
import Derived.WalkMore
set_option linter.unusedVariables false
set_option linter.unusedSimpArgs false
set_option maxHeartbeats 8000000
set_option maxRecDepth 100000
namespace Go.Proofs.YthmhklmkgkfcpaaGreatDoor
open Go.RowKit
def Tab (w:World):Prop:=∀ i,i<64→w.cell? ⟨1,i,none⟩=some (.int .u8 ((Lib.deBruijn64tab.getD i 0:Nat):Int))
theorem Tab.kp {w w':World}(h:Tab w)(k:Kp w w'):Tab w':=fun i hi=>k.cell (h i hi)
theorem Tab.lt {w:World}(h:Tab w):1<w.heap.size:=World.block_lt_of_cell? w _ (h 0 (by omega))
theorem Tab.held {R:Nat→Prop}{A B:World}(h:Tab A)(k:Held R A B)(hr:R 1):Tab B:=fun i hi=>k.cell (h i hi) hr
theorem aqq (x a:Nat)(hx:x<18446744073709551616)(hx0:x≠0)(hlow:x &&& (18446744073709551616 - x)=a):
  IntKind.u64.wrap (bits BinOp.and IntKind.u64 (x:Int) (IntKind.u64.wrap (-(x:Int)))*285870213051353865) / 288230376151711744=((a*285870213051353865 % 18446744073709551616 / 288230376151711744:Nat):Int):=by
 have e1:IntKind.u64.wrap (-(x:Int))=((18446744073709551616 - x:Nat):Int):=by rw[IntKind.wrap_u64];omega
 rw[e1,bits_and_u64_nat x _ hx (by omega),hlow,IntKind.wrap_u64];omega
theorem alZ (x k idx:Nat)(w:World)(hx0:((x:Int)==0)=false)
  (key:IntKind.u64.wrap (bits BinOp.and IntKind.u64 (x:Int) (IntKind.u64.wrap (-(x:Int)))*285870213051353865) / 288230376151711744=(idx:Int))
  (hi:idx<64) (hk:k<64) (hcell:w.cell? ⟨1,idx,none⟩=some (.int .u8 k)):
  Calls Tryz.prog 232 #[.int .u64 x] w fun e w'=>e=.returned (.int .i64 k)∧w=w':=by
 go_enter Tryz.func232,Tryz.ntmps232;go_wp2_with (simp only[key])
 go_ret;exact ⟨rfl,rfl⟩
theorem aoU (x:Nat)(w:World)(hx:x<18446744073709551616)(hx0:x≠0)(hT:Tab w):
  Calls Tryz.prog 232 #[.int .u64 x] w fun e w'=>e=.returned (.int .i64 (Lib.ctz 64 x))∧w=w':=by
 obtain ⟨hlow,hk⟩:=Lib.lowest_bit 64 x hx0 hx;obtain ⟨hi,htab⟩:=Lib.deBruijn64_at _ hk;have hcell:=hT _ hi;rw[htab] at hcell;exact alZ x _ _ w (by simp;omega) (aqq x _ hx hx0 hlow) hi hk hcell
theorem arp (x:Nat)(w:World)(hx:x<18446744073709551616)(hx0:x≠0)(hT:Tab w):
  Calls Tryz.prog 193 #[.int .u64 x] w fun e w'=>e=.returned (.int .i64 (Lib.ctz 64 x))∧w=w':=by
 have H:=Lib.hid (aoU x w hx hx0 hT);clear hx hx0 hT;go_enter Tryz.func193,Tryz.ntmps193;go_wp2_with fail;refine H.out.mono ?_;rintro _ _ ⟨rfl,rfl⟩;go_wp2_with fail;go_ret;exact ⟨rfl,rfl⟩
theorem ahS (n:Int)(w:World):Calls Tryz.prog 161 #[.int .i64 n] w fun e w'=>e=.returned (.bool (isTB n))∧w=w':=by
 by_cases h:1≤n∧n≤1024
 ·obtain ⟨N,rfl⟩:=Int.eq_ofNat_of_zero_le (by omega:0≤n)
  rw[ank N (by omega) (by omega)];have h1:(1:Int)≤(N:Int):=h.1;have h2:(N:Int)≤1024:=h.2;have e1:IntKind.i64.wrap ((N:Int) - 1)=((N - 1:Nat):Int):=by rw[IntWalk.i64_in _ (by omega)];omega
  have e2:bits .and .i64 (N:Int) ((N - 1:Nat):Int)=((N &&& (N - 1):Nat):Int):=ada N (N - 1) (by omega) (by omega);have e3:(((N &&& (N - 1):Nat):Int)==0)=decide (N &&& (N - 1)=0):=by
   by_cases h0:N &&& (N - 1)=0
   ·rw[h0];rfl
   ·rw[decide_eq_false h0,beq_eq_false_iff_ne];omega
  generalize decide (N &&& (N - 1)=0)=b at *;generalize N &&& (N - 1)=M at *;generalize ((N - 1:Nat):Int)=N1 at *;clear h;go_enter Tryz.func161,Tryz.ntmps161;go_wp2_with fail;go_ret;exact ⟨rfl,rfl⟩
 ·rw[aoR n h]
  by_cases h1:1≤n
  ·have h2:¬n≤1024:=fun e=>h ⟨h1,e⟩
   clear h;go_enter Tryz.func161,Tryz.ntmps161;go_wp2_with fail;go_ret;exact ⟨rfl,rfl⟩
  ·clear h
   go_enter Tryz.func161,Tryz.ntmps161;go_wp2_with fail;go_ret;exact ⟨rfl,rfl⟩
theorem aed (x n:Int)(w:World):Calls Tryz.prog 124 #[.int .i64 x,.int .i64 n] w fun e w'=>e=.returned (.bool (inB x n))∧w=w':=by
 have HT:=Lib.hid (ahS n w);by_cases ht:isTB n=true
 ·have h1:=acB ht
  have h2:IntKind.i64.wrap (2*n)=2*n:=IntWalk.i64_in _ (by omega);have h3:IntKind.i64.wrap (2*n - 2)=2*n - 2:=IntWalk.i64_in _ (by omega);have HI:inB x n=(decide (0≤x) && decide (x<2*n - 1)):=by unfold inB;rw[ht];rfl
  have HJ:decide (x<2*n - 1)=decide (x≤2*n - 2):=by congr 1;exact propext ⟨fun h=>by omega,fun h=>by omega⟩
  rw[ht] at HT;rw[HI,HJ];clear ht h1 HI HJ;by_cases h4:0≤x
  ·have d1:(decide (0≤x) && decide (x≤2*n - 2))=decide (x≤2*n - 2):=by simp[h4]
   rw[d1];clear d1;go_enter Tryz.func124,Tryz.ntmps124;go_wp2_with fail;refine HT.out.mono ?_;rintro _ _ ⟨rfl,rfl⟩;go_wp2_with fail;go_ret;exact ⟨rfl,rfl⟩
  ·have d1:(decide (0≤x) && decide (x≤2*n - 2))=false:=by simp;intro h;omega
   rw[d1];clear d1;go_enter Tryz.func124,Tryz.ntmps124;go_wp2_with fail;refine HT.out.mono ?_;rintro _ _ ⟨rfl,rfl⟩;go_wp2_with fail;go_ret;exact ⟨rfl,rfl⟩
 ·have ht2:isTB n=false:=by rw[Bool.eq_false_iff];exact ht
  have HI:inB x n=false:=by unfold inB;rw[ht2];rfl
  rw[ht2] at HT;rw[HI];clear ht ht2 HI;go_enter Tryz.func124,Tryz.ntmps124;go_wp2_with fail;refine HT.out.mono ?_;rintro _ _ ⟨rfl,rfl⟩;go_wp2_with fail;go_ret;exact ⟨rfl,rfl⟩
theorem alt (x:Int):inB x 1024=decide (okN x):=by
 have h:isTB 1024=true:=aeJ 10 (by omega);unfold inB okN;rw[h,Bool.true_and];by_cases h1:0≤x
 ·by_cases h2:x≤2046
  ·rw[decide_eq_true h1,decide_eq_true (show x<2*1024 - 1 by omega),decide_eq_true (show 0≤x∧x≤2046 from ⟨h1,h2⟩)];rfl
  ·rw[decide_eq_true h1,decide_eq_false (show ¬x<2*1024 - 1 by omega),decide_eq_false (show ¬(0≤x∧x≤2046) from fun h=>h2 h.2)];rfl
 ·rw[decide_eq_false h1,decide_eq_false (show ¬(0≤x∧x≤2046) from fun h=>h1 h.1)];rfl
theorem abj (x:Int)(w:World)(hT:Tab w):Calls Tryz.prog 158 #[.int .i64 x] w fun e w'=>e=.returned (.int .i64 (levV x))∧w=w':=by
 have HN:=Lib.hid (aed x 1024 w);rw[alt] at HN;by_cases h:okN x
 ·obtain ⟨j,q,rfl,hj,hq⟩:=(aaJ x).1 h
  have hb:0≤((nd j q:Nat):Int)∧((nd j q:Nat):Int)≤2046:=h;rw[decide_eq_true h] at HN;have HZ:=Lib.hid (arp (nd j q+1) w (by omega) (by omega) hT);rw[aro j q hj] at HZ;rw[abF hj hq];have e1:IntKind.u64.wrap ((nd j q:Nat):Int)=((nd j q:Nat):Int):=by rw[IntKind.wrap_u64];omega
  have e2:IntKind.u64.wrap (((nd j q:Nat):Int)+1)=((nd j q+1:Nat):Int):=by rw[IntKind.wrap_u64];omega
  generalize ((nd j q+1:Nat):Int)=Y at *;generalize ((nd j q:Nat):Int)=X at *;clear h hb hq hT;go_enter Tryz.func158,Tryz.ntmps158;go_wp2_with fail;refine HN.out.mono ?_;rintro _ _ ⟨rfl,rfl⟩;go_wp2_with fail;refine HZ.out.mono ?_;rintro _ _ ⟨rfl,rfl⟩;go_wp2_with fail;go_ret;exact ⟨rfl,rfl⟩
 ·rw[decide_eq_false h] at HN
  rw[agr h];clear h hT;go_enter Tryz.func158,Tryz.ntmps158;go_wp2_with fail;refine HN.out.mono ?_;rintro _ _ ⟨rfl,rfl⟩;go_wp2_with fail;go_ret;exact ⟨rfl,rfl⟩
theorem arq : Tryz.prog.globalNamed "math/bits.deBruijn64tab" = some 1 := by kernel_rfl
theorem anm:(Tryz.prog.globals[1]?).map (·.type)=some 279:=by kernel_rfl
theorem ann:Tryz.prog.cellsOf 279=64:=by kernel_rfl
theorem al0:Tryz.prog.cellsOf 5=1:=by kernel_rfl
theorem aoV {W : World}(h : laidMetH Tryz.prog [("math/bits.deBruijn32tab", Rows.laid_math_bits_deBruijn32tab), ("math/bits.deBruijn64tab", Rows.laid_math_bits_deBruijn64tab)] W) : Tab W := by
 have h1 : laidMet Tryz.prog [("math/bits.deBruijn32tab", Rows.laid_math_bits_deBruijn32tab), ("math/bits.deBruijn64tab", Rows.laid_math_bits_deBruijn64tab)] W := h;have h2 := laidMet.tail h1;have t : Lib.TabIs Tryz.prog W "math/bits.deBruijn64tab" .u8 (Lib.deBruijn64tab.map fun (n : Nat) => (n : Int)) :=
  Lib.tabIs_of_head (rest:=[]) arq anm Tryz.underlying279 Tryz.underlying5 al0 ann h2
 intro i hi;have h3:=t.cell arq i (by simpa using (show i<Lib.deBruijn64tab.length from hi));rw[h3];have hi2:i<Lib.deBruijn64tab.length:=hi;simp[List.getD_eq_getElem?_getD,hi2]
def aqa (l:List Nat):Obj→Obj
 | .cells _ t frozen=>.cells (l.map fun (n:Nat)=>(.int .u8 (n:Int):Value)).toArray t frozen
 | o=>o
noncomputable def agt (os:Os):World:=
 { World.holding Tryz.prog os ⟨#[],#[],[]⟩ with heap:=((World.holding Tryz.prog os ⟨#[],#[],[]⟩).heap.modify 0 (aqa Lib.deBruijn32tab)).modify 1 (aqa Lib.deBruijn64tab) }
structure ar0 (P:Program)(t e:TypeId):Prop where
 ht:P.underlying t=some (.slice e)
 hi:∃ i z,P.info? e=some i∧i.zero=some z∧i.size=1∧i.bytes≤64∧z.cells.size=1
theorem ar0.mk' {P:Program}{t e:TypeId}{z:Value}{b:Nat}(ht:P.underlying t=some (.slice e))(h:(P.info? e).map (fun i=>(i.zero,i.size,i.bytes))=some (some z,1,b))(hb:b≤64)(hz:z.cells.size=1):ar0 P t e:=by
 obtain ⟨i,hi,hz0,hz1,hz2⟩:=info_parts h;exact ⟨ht,i,z,hi,hz0,hz1,by omega,hz⟩
theorem abM {P:Program}{w:World}{t e:TypeId}(S:ar0 P t e){ops:Array Oper}{rest:List Oper}{o:Oper}{a:Act}{Q:Exit→Act→World→Prop}(hgd:o.guard=none)(s x:Operand)
  (ho:o.op=.call { callee:=.builtin .append,args:=#[s,x],argTypes:=#[t,t] })
  (B:Nat) (v:Value) (us:List Value) (hs:a.eval s=v) (hown:w.ownsRow B e 1 v us.length us) (u:Value) (ms:List Value) (hx:a.eval x=u) (hu:Vals w u ms) (h1:∀ z∈ms,z.oneCell'=true)
  (hlen:us.length+ms.length≤1000000000000) (hbase:B≤w.heap.size)
  (h:∀ v' w',w'.ownsRow B e 1 v' (us++ms).length (us++ms)→w.grownBy w' v.ownBlock→wpList P ops Q rest (a.put o.dst v') w'):wpList P ops Q (o :: rest) a w:=by
 obtain ⟨i,z,hi,hz,hsize,hby,hzc⟩:=S.hi
 obtain ⟨ad,c,rfl,hc,hm,hnil,hcell⟩:=hu
 cases ad with
 | none=>
  have hc0:=hnil rfl
  have hm0:ms=[]:=List.eq_nil_of_length_eq_zero (by omega)
  subst hm0
  subst hc0
  refine wpList_append_own_none hgd s x t ho B e i 1 S.ht hi v us.length us hs hown hx ?_
  exact h v w (by simpa using hown) ⟨rfl,rfl,rfl,Nat.le_refl _,fun _ _ _=>rfl⟩
 | some ad=>
  refine wpList_append_own w hgd s x t ho B e i z 1 i.bytes S.ht hi hz hsize rfl hzc (by decide) v us.length us hs hown ad ms.length c ms hx (by omega) (fun j y hj=>?_) h1 (by unfold maxLen;omega) ?_ hbase
   (fun v' w' h1 h2 h3=>h v' w' (by rw[List.length_append];exact h1) h2)
  ·have hjl:j<ms.length:=(List.getElem?_eq_some_iff.1 hj).1
   rw[List.getElem?_eq_getElem hjl] at hj
   cases hj
   exact hcell ad rfl j hjl
  ·have:=Nat.mul_le_mul hlen hby
   omega
theorem Rd.one {w:World}{v:Value}{l:List UInt8}(h:Rd w v l):v.oneCell'=true:=by
 obtain ⟨a,c,rfl,_⟩:=h.shape;rfl
theorem aga (w:World)(e:TypeId)(u:Value):(w.alloc (.cells #[u] e)).ownsRow w.heap.size e 1 (.slice (some ⟨w.heap.size,0,none⟩) 1 1) [u].length [u]:=
 World.ownsRow_lit w #[u] 1 (Nat.le_refl _) (by unfold maxLen;omega) rfl
def iv (n:Nat):Value:=.int .i64 (n:Int)
def RN (w:World)(v:Value)(l:List Nat):Prop:=Vals w v (l.map iv)
def ON (e:TypeId)(w:World)(B:Nat)(v:Value)(l:List Nat):Prop:=w.ownsRow B e 1 v (l.map iv).length (l.map iv)
theorem RN.kp {w w':World}{v:Value}{l:List Nat}(h:RN w v l)(k:Kp w w'):RN w' v l:=Vals.kp h k
theorem RN.nil (w:World):RN w (.slice none 0 0) []:=Vals.nil w
theorem RN.shape {w:World}{v:Value}{l:List Nat}(h:RN w v l):∃ a c,v=.slice a l.length c∧l.length≤c∧c≤maxLen:=by
 have:=Vals.shape h;rwa [List.length_map] at this
theorem RN.at {w:World}{a:Option Addr}{n c:Nat}{l:List Nat}(h:RN w (.slice a n c) l)(k:Nat)(hk:k<n):
  ∃ b off,a=some ⟨b,off,none⟩∧b<w.heap.size∧∀ i,i<n→w.cell? ⟨b,off+i,none⟩=some (.int .i64 ((l.getD i 0:Nat):Int)):=by
 obtain ⟨b,off,ha,hb,hc⟩:=Vals.at h k hk;have hn:n=l.length:=by
  obtain ⟨a',c',e,_⟩:=h.shape;simp only[Value.slice.injEq] at e;exact e.2.1
 refine ⟨b,off,ha,hb,fun i hi=>?_⟩;rw[hc i hi,List.getD_eq_getElem?_getD,List.getElem?_map,List.getElem?_eq_getElem (by omega),List.getD_eq_getElem?_getD,List.getElem?_eq_getElem (by omega)];rfl
theorem ON.rn {e:TypeId}{w:World}{B:Nat}{v:Value}{l:List Nat}(h:ON e w B v l):RN w v l:=Vals.own h
theorem ON.nil (e:TypeId)(w:World)(B:Nat):ON e w B (.slice none 0 0) []:=World.ownsRow_nil _ _ _ _
theorem ON.kp {e:TypeId}{w w':World}{B:Nat}{v:Value}{l:List Nat}(h:ON e w B v l)(k:Kp w w'):ON e w' B v l:=by
 refine ⟨h.1,?_⟩;rcases h.2 with hn | ⟨g,cap,cur,rfl,hb,hg,rest⟩
 ·exact .inl hn
 ·exact .inr ⟨g,cap,cur,rfl,hb,(Below.block k g (Array.getElem?_eq_some_iff.1 hg).1).trans hg,rest⟩
theorem ON.own_ge {e:TypeId}{w:World}{B:Nat}{v:Value}{l:List Nat}(h:ON e w B v l):∀ k,v.ownBlock=some k→B≤k:=fun k hk=>(World.ownsRow.lt h k hk).1
theorem RN.sl {w:World}{v:Value}{l:List Nat}(h:RN w v l):∃ a n c,v=.slice a n c:=by
 obtain ⟨a,c,e,_⟩:=h.shape;exact ⟨_,_,_,e⟩
theorem ON.lit1 (w:World)(e:TypeId)(n:Nat):RN (w.alloc (.cells #[.int .i64 (n:Int)] e)) (.slice (some ⟨w.heap.size,0,none⟩) 1 1) [n]:=
 Vals.own (aga w e (iv n))
theorem adP {P:Program}{w:World}{t e:TypeId}(S:ar0 P t e){ops:Array Oper}{rest:List Oper}{o:Oper}{a:Act}{Q:Exit→Act→World→Prop}(hgd:o.guard=none)(s x:Operand)
  (ho:o.op=.call { callee:=.builtin .append,args:=#[s,x],argTypes:=#[t,t] })
  (B:Nat) (v:Value) (l:List Nat) (hs:a.eval s=v) (hown:ON e w B v l) (u:Value) (n:Nat) (hx:a.eval x=u) (hu:RN w u [n]) (hlen:l.length≤1000000) (hbase:B≤w.heap.size)
  (h:∀ v' w',ON e w' B v' (l++[n])→w.grownBy w' v.ownBlock→wpList P ops Q rest (a.put o.dst v') w'):wpList P ops Q (o :: rest) a w:=by
 refine abM S hgd s x ho B v (l.map iv) hs hown u [iv n] hx hu (fun z hz=>by simp at hz;subst hz;rfl) (by rw[List.length_map];simp;omega) hbase (fun v' w' h1 h2=>h v' w' ?_ h2);unfold ON;rw[List.map_append];exact h1
def nI (n:Int):Value:=.int .i64 n
def RI (w:World)(v:Value)(l:List Int):Prop:=Vals w v (l.map nI)
def OI (e:TypeId)(w:World)(B:Nat)(v:Value)(l:List Int):Prop:=w.ownsRow B e 1 v (l.map nI).length (l.map nI)
theorem RI.kp {w w':World}{v:Value}{l:List Int}(h:RI w v l)(k:Kp w w'):RI w' v l:=Vals.kp h k
theorem RI.nil (w:World):RI w (.slice none 0 0) []:=Vals.nil w
theorem RI.shape {w:World}{v:Value}{l:List Int}(h:RI w v l):∃ a c,v=.slice a l.length c∧l.length≤c∧c≤maxLen:=by
 have:=Vals.shape h;rwa [List.length_map] at this
theorem RI.sl {w:World}{v:Value}{l:List Int}(h:RI w v l):∃ a n c,v=.slice a n c:=by
 obtain ⟨a,c,e,_⟩:=h.shape;exact ⟨_,_,_,e⟩
theorem RI.at {w:World}{a:Option Addr}{n c:Nat}{l:List Int}(h:RI w (.slice a n c) l)(k:Nat)(hk:k<n):
  ∃ b off,a=some ⟨b,off,none⟩∧b<w.heap.size∧∀ i,i<n→w.cell? ⟨b,off+i,none⟩=some (.int .i64 (l.getD i 0)):=by
 obtain ⟨b,off,ha,hb,hc⟩:=Vals.at h k hk;have hn:n=l.length:=by
  obtain ⟨a',c',e,_⟩:=h.shape;simp only[Value.slice.injEq] at e;exact e.2.1
 refine ⟨b,off,ha,hb,fun i hi=>?_⟩;rw[hc i hi,List.getD_eq_getElem?_getD,List.getElem?_map,List.getElem?_eq_getElem (by omega),List.getD_eq_getElem?_getD,List.getElem?_eq_getElem (by omega)];rfl
theorem RN.ri {w:World}{v:Value}{l:List Nat}(h:RN w v l):RI w v (l.map fun (n:Nat)=>(n:Int)):=by
 unfold RI;rw[List.map_map];exact h
theorem ON.oi {e:TypeId}{w:World}{B:Nat}{v:Value}{l:List Nat}(h:ON e w B v l):OI e w B v (l.map fun (n:Nat)=>(n:Int)):=by
 unfold OI;rw[List.map_map];exact h
theorem OI.ri {e:TypeId}{w:World}{B:Nat}{v:Value}{l:List Int}(h:OI e w B v l):RI w v l:=Vals.own h
theorem OI.nil (e:TypeId)(w:World)(B:Nat):OI e w B (.slice none 0 0) []:=World.ownsRow_nil _ _ _ _
theorem adk {w w':World}{B C:Nat}{e:TypeId}{n:Nat}{v:Value}{us:List Value}(h:w.ownsRow B e C v n us)(k:Kp w w'):w'.ownsRow B e C v n us:=by
 refine ⟨h.1,?_⟩;rcases h.2 with hn | ⟨g,cap,cur,rfl,hb,hg,rest⟩
 ·exact .inl hn
 ·exact .inr ⟨g,cap,cur,rfl,hb,(Below.block k g (Array.getElem?_eq_some_iff.1 hg).1).trans hg,rest⟩
theorem OI.kp {e:TypeId}{w w':World}{B:Nat}{v:Value}{l:List Int}(h:OI e w B v l)(k:Kp w w'):OI e w' B v l:=adk h k
theorem OI.mono {e:TypeId}{w:World}{B C:Nat}{v:Value}{l:List Int}(h:OI e w B v l)(hb:C≤B):OI e w C v l:=by
 refine ⟨h.1,?_⟩;rcases h.2 with hn | ⟨g,cap,cur,e1,h1,rest⟩
 ·exact .inl hn
 ·exact .inr ⟨g,cap,cur,e1,by omega,rest⟩
theorem OI.lt {e:TypeId}{w:World}{B:Nat}{v:Value}{l:List Int}(h:OI e w B v l):∀ k,v.ownBlock=some k→B≤k∧k<w.heap.size:=fun k hk=>World.ownsRow.lt h k hk
theorem RI.lit (w:World)(e:TypeId)(cs:Array Value)(l:List Int)(n:Nat)(hn:l.length=n)(hm:n≤1000000)(hc:cs.toList=l.map nI):
  OI e (w.alloc (.cells cs e)) w.heap.size (.slice (some ⟨w.heap.size,0,none⟩) n n) l:=by
 subst hn;have hl:(l.map nI).length=l.length:=List.length_map ..;unfold OI;rw[hl];have h2:(w.alloc (.cells cs e)).ownsRow w.heap.size e 1 (.slice (some ⟨w.heap.size,0,none⟩) l.length l.length) l.length cs.toList:=
  World.ownsRow_lit w cs l.length (Nat.le_refl _) (by unfold maxLen;omega) (by rw[← Array.length_toList,hc,hl];omega)
 rw[hc] at h2;exact h2
theorem aaD {P:Program}{w:World}{t e:TypeId}(S:ar0 P t e){ops:Array Oper}{rest:List Oper}{o:Oper}{a:Act}{Q:Exit→Act→World→Prop}(hgd:o.guard=none)(s x:Operand)
  (ho:o.op=.call { callee:=.builtin .append,args:=#[s,x],argTypes:=#[t,t] })
  (B:Nat) (v:Value) (l:List Int) (hs:a.eval s=v) (hown:OI e w B v l) (u:Value) (m:List Int) (hx:a.eval x=u) (hu:RI w u m) (hlen:l.length+m.length≤1000000) (hbase:B≤w.heap.size)
  (h:∀ v' w',OI e w' B v' (l++m)→w.grownBy w' v.ownBlock→wpList P ops Q rest (a.put o.dst v') w'):wpList P ops Q (o :: rest) a w:=by
 refine abM S hgd s x ho B v (l.map nI) hs hown u (m.map nI) hx hu (fun z hz=>?_) (by rw[List.length_map,List.length_map];omega) hbase (fun v' w' h1 h2=>h v' w' ?_ h2)
 ·obtain ⟨n,_,rfl⟩:=List.mem_map.1 hz
  rfl
 ·unfold OI
  rw[List.map_append];exact h1
section
variable {F : Fence} {n : Nat} {P : Program} {ops : Array Oper} {Q : Exit → Act → World → Prop} {md : Region.Mode} {S : World → Prop}
structure Calm (P:Program)(ops:Array Oper)(S:World→Prop)(o:Oper)(v:Value)(a:Act):Prop where
 nodefer:∀ c,o.op≠.defer c
 about:∀ w,o.about P w a.eval=none
 yields:(Region.wanted o (yielded ops a.tmps)=true∧∀ w,S w→(execOp a.eval o).run P w=.ok (.value v) w)∨(Region.wanted o (yielded ops a.tmps)=false∧v=undef)
def aiD (ops:Array Oper):Bool:=ops.all fun o=>match o.op with | .defer _=>false | _=>true
theorem ajM (h:aiD ops=true){j:Nat}{o:Oper}(hj:ops[j]?=some o):∀ c,o.op≠.defer c:=fun c e=>by
 have:=Array.all_eq_true_iff_forall_mem.1 h o (Array.mem_of_getElem? hj);rw[e] at this;cases this
theorem Calm.put {o oj:Oper}{v:Value}{a:Act}(h:Calm P ops S o v a)(hs:∀ cs b,o.op≠.select cs b)(u:Value)(hap:∀ d,oj.dst=some d→d∉o.looksAt ops):Calm P ops S o v (a.put oj.dst u):=by
 obtain ⟨h1,h2,h3⟩:=h;refine ⟨h1,fun w=>(about_put o w a oj.dst u hap).trans (h2 w),?_⟩;rw[wanted_put o a oj.dst u hap,execOp_put o hs a oj.dst u hap];exact h3
theorem Calm.run {o:Oper}{i:Nat}{v:Value}{a:Act}{w:World}{K:Act→World→Prop}(h:Calm P ops S o v a)(hi:ops[i]?=some o)(hS:S w)(hK:K (a.put o.dst v) w):wpOpIn F n P ops Q i K a w:=by
 have hab:∀ f,o.about P w a.eval=some f→F.fn f:=fun f hf=>by rw[h.about w] at hf;cases hf
 unfold wpOpIn;simp only[hi];rcases h.yields with ⟨hw,hv⟩ | ⟨hw,rfl⟩
 ·rw[if_pos hw]
  exact ⟨hab,by rw[Oper.semAt_plain F _ _ h.nodefer,hv w hS];exact hK⟩
 ·rw[if_neg (by rw[hw];decide)]
  exact ⟨hab,hK⟩
theorem Calm.later {j:Nat}{o oj:Oper}{v:Value}{a:Act}{w:World}{K:Act→World→Prop}(h:Calm P ops S o v a)(hnd:aiD ops=true)(hns:Region.noSelect ops=true){i:Nat}(hi:ops[i]?=some o)(hj:ops[j]?=some oj)
  (hap:o.apart ops oj=true) (hQ:∀ c a w,Q (.panic c) (a.put o.dst v) w→Q (.panic c) a w) (hh:wpOpIn F n P ops Q j K (a.put o.dst v) w):
  wpOpIn F n P ops Q j (fun a' w'=>Calm P ops S o v a'∧K (a'.put o.dst v) w') a w:=by
 obtain ⟨p1,p2,p3⟩:=Oper.apart_spec hap;have hsj:=fun cs b=>Region.noSelect_spec hns j oj cs b hj
 have hsi:=fun cs b=>Region.noSelect_spec hns i o cs b hi
 have hd:=ajM hnd hj;have back:∀ u w',K ((a.put o.dst v).put oj.dst u) w'→Calm P ops S o v (a.put oj.dst u)∧K ((a.put oj.dst u).put o.dst v) w':=fun u w' hk=>⟨h.put hsi u p3,by rw[← Act.put_comm a v u p2];exact hk⟩
 unfold wpOpIn at *;simp only[hj] at *;rw[wanted_put oj a o.dst v p1,about_put oj w a o.dst v p1] at hh;by_cases hw:Region.wanted oj (yielded ops a.tmps)=true
 ·rw[if_pos hw] at hh ⊢
  unfold Oper.wpIn at *;rw[Oper.semAt_plain F _ _ hd,about_put oj w a o.dst v p1,execOp_put oj hsj a o.dst v p1] at hh;refine ⟨hh.1,?_⟩;rw[Oper.semAt_plain F _ _ hd];have h2:=hh.2;obtain ⟨r,hr⟩:∃ r,(execOp a.eval oj).run P w=r:=⟨_,rfl⟩;rw[hr] at h2 ⊢;match r,h2 with
  | .ok (.value u) w',h2=>exact back u w' h2
  | .ok .skip w',h2=>exact back undef w' h2
  | .ok (.defer d) w',h2=>
   refine ⟨Calm.put (a:={ a with defers:=d :: a.defers }) (oj:=oj) ⟨h.nodefer,h.about,h.yields⟩ hsi undef p3,?_⟩;rw[← Act.put_comm _ v undef p2,← Act.put_defers];exact h2
  | .ok (.enter f args) w',h2=>
   refine ⟨h2.1,h2.2.mono fun e w'' he=>?_⟩;match e,he with
   | .returned u,he=>exact back u w'' he
   | .panicked c,he=>exact hQ _ _ _ he
   | .outgrown,he=>exact he
  | .ok (.row row args) w',h2=>exact ⟨h2.1,h2.2.mono fun u w'' he=>back u w'' he⟩
  | .ok (.round l f tmps assign body) w',h2=>
   refine ⟨h2.1,h2.2.mono fun e w'' he=>?_⟩;match e,he with
   | .returned u,he=>exact back u w'' he
   | .panicked c,he=>exact hQ _ _ _ he
   | .outgrown,he=>exact he
  | .halt (.panic u) w',h2=>exact hQ _ _ _ h2
 ·rw[if_neg hw] at hh ⊢
  exact ⟨hh.1,back undef w hh.2⟩
def aaY (F:Fence)(n:Nat)(P:Program)(md:Region.Mode)(ops:Array Oper)(Q:Exit→Act→World→Prop)(S:World→Prop):Nat→Array Bool→Act→World→Prop
 | 0,listed,a,w=>Region.ready md ops listed=[]∧Q .normal a w
 | fuel+1,listed,a,w=>
  (Region.ready md ops listed=[]→Q .normal a w) ∧
  ∀ i∈Region.ready md ops listed,wpOpIn F n P ops Q i (fun a' w'=>S w'∧aaY F n P md ops Q S fuel (listed.setIfInBounds i true) a' w') a w
theorem aaY.any:∀ (fuel:Nat) (listed:Array Bool) (a:Act) (w:World),aaY F n P md ops Q S fuel listed a w→wpAnyIn F n P md ops Q fuel listed a w
 | 0,_,_,_,h=>h
 | fuel+1,_,_,_,h=>⟨h.1,fun i hi=>wpOpIn_mono (fun a' w' h'=>aaY.any fuel _ a' w' h'.2) (h.2 i hi)⟩
theorem aaY.first {i:Nat}{o:Oper}{v:Value}(hnd:aiD ops=true)(hns:Region.noSelect ops=true)(hi:ops[i]?=some o)(hQ:∀ c a w,Q (.panic c) (a.put o.dst v) w→Q (.panic c) a w):
  ∀ (fuel:Nat) (listed:Array Bool) (a:Act) (w:World),
   (∀ j oj,ops[j]?=some oj→j≠i→listed.getD j true=false→(∀ e∈oj.after,Region.binds md e=true→e.on≠i)→o.apart ops oj=true) →
   i∈Region.ready md ops listed→Calm P ops S o v a→S w→aaY F n P md ops Q S fuel (listed.setIfInBounds i true) (a.put o.dst v) w→aaY F n P md ops Q S (fuel+1) listed a w
 | fuel,listed,a,w,hfree,hr,hy,hS,H=>by
  refine ⟨fun h=>(by rw[h] at hr;cases hr),fun j hj=>?_⟩
  by_cases hji:j=i
  ·subst hji
   exact hy.run hi hS ⟨hS,H⟩
  ·have hj':=ready_mono (i:=i) hj hji
   match fuel,H with
   | 0,H=>rw[H.1] at hj';cases hj'
   | fuel+1,H=>
    obtain ⟨hjun,oj,hoj,hall⟩:=mem_ready.1 hj
    have hnot:∀ e∈oj.after,Region.binds md e=true→e.on≠i:=fun e he hb heq=>by
     have h1:=hall e he hb
     have h0:=(mem_ready.1 hr).1
     rw[heq] at h1
     rcases Nat.lt_or_ge i listed.size with h' | h'
     ·simp[h'] at h0 h1;rw[h0] at h1;cases h1
     ·simp[Array.getElem?_eq_none h'] at h1
    refine wpOpIn_mono ?_ (hy.later hnd hns hi hoj (hfree j oj hoj hji hjun hnot) hQ (H.2 j hj'))
    rintro a' w' ⟨hy',hS',H'⟩
    refine ⟨hS',aaY.first hnd hns hi hQ fuel (listed.setIfInBounds j true) a' w' (fun k ok hk hki hun hno=>?_) (ready_mono hr (Ne.symm hji)) hy' hS' ?_⟩
    ·refine hfree k ok hk hki ?_ hno
     by_cases hjk:j=k
     ·subst hjk;exact hjun
     ·rwa [getD_set_ne true hjk] at hun
    ·rw[Array.setIfInBounds_comm _ _ hji]
     exact H'
theorem ajN {id:Nat}{a:Act}{w:World}(hm:P.follows .mixedOrders=true)(h:aaY F n P .any ops Q S ops.size (Array.replicate ops.size false) a w.drew):(Code.region id ops true).wpIn F n P Q a w:=
 wpIn_region_any hm (aaY.any _ _ _ _ h)
theorem aaY.take (i:Nat)(v:Value){o:Oper}{fuel:Nat}{listed:Array Bool}{a:Act}{w:World}(hi:ops[i]?=some o)(hnd:aiD ops=true)(hns:Region.noSelect ops=true)(hf:Region.free md ops listed i=true)
  (hr:(Region.ready md ops listed).contains i=true) (hQ:∀ c a w,Q (.panic c) (a.put o.dst v) w→Q (.panic c) a w) (hS:S w) (hy:Calm P ops S o v a)
  (h:aaY F n P md ops Q S fuel (listed.setIfInBounds i true) (a.put o.dst v) w):aaY F n P md ops Q S (fuel+1) listed a w:=
 aaY.first hnd hns hi hQ fuel listed a w (Region.free_spec hi hf) (by simpa using hr) hy hS h
theorem aaY.one (i:Nat){o:Oper}{fuel:Nat}{listed:Array Bool}{a:Act}{w:World}(hi:ops[i]?=some o)(hr:Region.ready md ops listed=[i])
  (h:∀ K:Act→World→Prop,(∀ a' w',S w'→aaY F n P md ops Q S fuel (listed.setIfInBounds i true) a' w'→K a' w')→if Region.wanted o (yielded ops a.tmps)=true then Oper.wpIn F n P o a w K Q else (∀ f,o.about P w a.eval=some f→F.fn f)∧K (a.put o.dst undef) w):
  aaY F n P md ops Q S (fuel+1) listed a w:=by
 refine ⟨fun h0=>(by rw[h0] at hr;cases hr),fun j hj=>?_⟩;rw[hr] at hj;obtain rfl:j=i:=by simpa using hj
 exact wpOpIn_step hi (fun K' hK=>h K' (fun a' w' hs hw=>hK a' w' ⟨hs,hw⟩))
theorem aaY.done {fuel:Nat}{listed:Array Bool}{a:Act}{w:World}(hr:Region.ready md ops listed=[])(h:Q .normal a w):aaY F n P md ops Q S fuel listed a w:=by
 cases fuel with
 | zero=>exact ⟨hr,h⟩
 | succ fuel=>exact ⟨fun _=>h,fun i hi=>by rw[hr] at hi;cases hi⟩
end
def alO (P:Program)(gf:Nat)(lb:Array Value)(T:Nat→Array Value→(Nat→Prop)→World→Prop)(N:Nat)(R:Nat→Prop)(w:World):Prop:=
 ∀ (l:Nat) (J Jx:Nat→(Nat→Prop)→World→Prop) (W:World),Held R w W→w.heap.size≤l→l<W.heap.size →
  (∀ i,ac4 W.heap.size (J i))→(∀ i,ac4 W.heap.size (Jx i)) →
  (∀ i Y A v m,i<N→J i Y A→(∀ k,Y k→W.heap.size≤k∧k<A.heap.size)→Held R w A→T i v Y A →
   YieldAt Fence.wide m P l v A fun e B=>Held (fun k=>Y k∨R k) A B∧((e=.returned (.bool true)∧J (i+1) Y B)∨(e=.returned (.bool false)∧Jx i Y B))) →
  J 0 (fun _=>False) W →
  Calls P gf (#[.func (.yield l) #[] #[]]++lb) W fun e B=>(∃ v,e=.returned v)∧∃ Y,(∀ k,Y k→W.heap.size≤k∧k<B.heap.size)∧(J N Y B∨∃ i,i<N∧Jx i Y B)
theorem acO {P:Program}{g:Operand}{ps:Array Tmp}{assign body:Code}{Q:Exit→Act→World→Prop}{a:Act}{w:World}
  {gf:Nat} {lb:Array Value} (hg:a.eval g=.func (.func gf) #[] lb) (eg:∀ args w,(callFunc gf args).run P w=.ok (.enter gf args) w)
  {T:Nat→Array Value→(Nat→Prop)→World→Prop} {N:Nat} {R:Nat→Prop} {w0:World} (hk0:Kp w0 w) (hR0:∀ k,R k→k<w0.heap.size) (hseq:alO P gf lb T N R w0) (hps:∀ i v Y A,T i v Y A→v.size=ps.size)
  (I:Nat→(Nat→Prop)→World→Prop) (Ix:Code→Nat→(Nat→Prop)→World→Prop)
  (hI:∀ i,ac4 w.heap.size (I i)) (hIx:∀ c i,ac4 w.heap.size (Ix c i))
  (hTT:∀ i v Yi Y A B l o,T i v Yi A→(∀ k,Yi k→Y k)→(∀ k,Y k→Yi k∨∃ o:Obj,A.heap[k]?=some o∧o.isCells=false)→w.heap.size≤l→A.heap[l]?=some (.loop o)→Step (fun k=>k=l) A B→T i v Y B)
  (h0:I 0 (fun _=>False) w) (Ax:Array Value→Act→World→Prop)
  (hAx:∀ v a' A l o o',Ax v a' A→w.heap.size≤l→A.heap[l]?=some (.loop o)→Ax v a' (A.putObj l o'))
  (hassign:∀ (l i:Nat) (Y Yi:Nat→Prop) (v:Array Value) (A:World) (K:Act→World→Prop),I i Y A→T i v Yi A→(∀ a' A',Kp A A'→Ax v a' A'→K a' A') →
   assign.wpIn (Fence.wide.inRound l) 4 P (Exit.then K (fun _ _ _=>False)) { tmps:=(ps.zip v).foldl (fun t (p,v)=>t.setIfInBounds p v) a.tmps,defers:=[] } A)
  (hbody:∀ (l i:Nat) (Y:Nat→Prop) (v:Array Value) (a':Act) (A:World),i<N→I i Y A→(∀ k,Y k→w.heap.size≤k∧k<A.heap.size)→Held R w A→T i v Y A→Ax v a' A →
   body.wpIn (Fence.wide.inRound l) 4 P (fun e _ B=>Held (fun k=>Y k∨R k) A B∧((e=.normal∧I (i+1) Y B)∨∃ c,ahR e=some c∧Ix c i Y B)) a' A)
  (hdone:∀ (D:Nat) (Y:Nat→Prop) (W:World),w.heap.size≤D→Y D→(∀ k,Y k→w.heap.size≤k)→I N Y W→W.heap[D]?=some (.deferred (some []))→Q .normal { a with defers:={ target:=.collected D,args:=#[] } :: a.defers } W)
  (hstop:∀ (D:Nat) (c:Code) (i:Nat) (Y:Nat→Prop) (W:World),w.heap.size≤D→Y D→(∀ k,Y k→w.heap.size≤k)→i<N→Ix c i Y W→W.heap[D]?=some (.deferred (some []))→c.wp P Q { a with defers:={ target:=.collected D,args:=#[] } :: a.defers } W):
  (Code.rangeFunc g ps assign body).wp P Q a w:=by
 have hR:∀ k,R k→k<w.heap.size:=fun k hk=>Nat.lt_of_lt_of_le (hR0 k hk) hk0.size
 refine (wpIn_wide (n:=6)).1 (wpIn_rangeFunc ?_);intro fn hfn;rw[show Fence.wide.round=none from rfl];let rec':LoopState→Option Code→Loop:=fun st pe=>{ state:=st,pending:=pe,fn,tmps:=a.tmps,params:=ps,assign,body,defers:=w.heap.size }
 obtain ⟨W1,hW1⟩:∃ W1,(w.alloc (.deferred (some []))).alloc (.loop (rec' .ready none))=W1:=⟨_,rfl⟩;have hD1:W1.heap[w.heap.size]?=some (.deferred (some [])):=by
  rw[← hW1];exact (Below.heap_alloc _ _ _ (by simp)).trans (heap_alloc_new w _)
 have hL1:W1.heap[w.heap.size+1]?=some (.loop (rec' .ready none)):=by
  rw[← hW1];have:=heap_alloc_new (w.alloc (.deferred (some []))) (.loop (rec' .ready none));rwa [World.size_alloc] at this
 have hs1:W1.heap.size=w.heap.size+2:=by rw[← hW1];simp
 have hb1:Kp w W1:=by rw[← hW1];exact ((Kp.refl w).alloc _).alloc _
 let V:Nat→(Nat→Prop)→World→(Nat→Prop)→Prop:=fun i Yi A Y=>I i Y A∧(∀ k,Yi k→Y k)∧(∀ k,Y k→Yi k∨k=w.heap.size∨k=w.heap.size+1)∧(∀ k,Y k→w.heap.size≤k∧k<A.heap.size)∧Y w.heap.size∧Y (w.heap.size+1) ∧
  A.heap[w.heap.size]?=some (.deferred (some []))∧A.heap[w.heap.size+1]?=some (.loop (rec' .ready none))
 let Vx:Nat→(Nat→Prop)→World→(Nat→Prop)→Code→Prop:=fun i Yi A Y c=>Ix c i Y A∧(∀ k,Yi k→Y k)∧(∀ k,Y k→Yi k∨k=w.heap.size∨k=w.heap.size+1)∧(∀ k,Y k→w.heap.size≤k∧k<A.heap.size)∧Y w.heap.size∧Y (w.heap.size+1) ∧
  A.heap[w.heap.size]?=some (.deferred (some []))∧A.heap[w.heap.size+1]?=some (.loop (rec' .done (some c)))
 have hV:∀ i,ac4 W1.heap.size (fun Yi A=>∃ Y,V i Yi A Y):=by
  rintro i Yi Yi' A B ⟨Y,hi,hyy,hyn,hyb,hyD,hyL,hd,hl⟩ hYi hst hgr;have hnD:¬Yi w.heap.size:=fun e=>by have:=(hYi _ e).1;omega
  have hnL:¬Yi (w.heap.size+1):=fun e=>by have:=(hYi _ e).1;omega
  have hDA:=(hyb _ hyD).2;have hLA:=(hyb _ hyL).2;refine ⟨fun k=>Yi' k∨k=w.heap.size∨k=w.heap.size+1,hI i Y _ A B hi hyb (hst.mono hyy) (fun k hk=>?_),fun k hk=>.inl hk,fun k hk=>hk,fun k hk=>?_,.inr (.inl rfl),.inr (.inr rfl),(hst.block _ hDA hnD).trans hd,(hst.block _ hLA hnL).trans hl⟩
  ·rcases hk with hk | rfl | rfl
   ·exact (hgr k hk).imp (hyy k) id
   ·exact .inl hyD
   ·exact .inl hyL
  ·have:=hst.size
   rcases hk with hk | rfl | rfl
   ·rcases hgr k hk with h | h
    ·have:=hyb k (hyy k h);omega
    ·have:=hyb _ hyD;omega
   ·omega
   ·omega
 have hVx:∀ i,ac4 W1.heap.size (fun Yi A=>∃ Y c,Vx i Yi A Y c):=by
  rintro i Yi Yi' A B ⟨Y,c,hi,hyy,hyn,hyb,hyD,hyL,hd,hl⟩ hYi hst hgr;have hnD:¬Yi w.heap.size:=fun e=>by have:=(hYi _ e).1;omega
  have hnL:¬Yi (w.heap.size+1):=fun e=>by have:=(hYi _ e).1;omega
  have hDA:=(hyb _ hyD).2;have hLA:=(hyb _ hyL).2;refine ⟨fun k=>Yi' k∨k=w.heap.size∨k=w.heap.size+1,c,hIx c i Y _ A B hi hyb (hst.mono hyy) (fun k hk=>?_),fun k hk=>.inl hk,fun k hk=>hk,fun k hk=>?_,.inr (.inl rfl),.inr (.inr rfl),(hst.block _ hDA hnD).trans hd,(hst.block _ hLA hnL).trans hl⟩
  ·rcases hk with hk | rfl | rfl
   ·exact (hgr k hk).imp (hyy k) id
   ·exact .inl hyD
   ·exact .inl hyL
  ·have:=hst.size
   rcases hk with hk | rfl | rfl
   ·rcases hgr k hk with h | h
    ·have:=hyb k (hyy k h);omega
    ·have:=hyb _ hyD;omega
   ·omega
   ·omega
 refine ⟨w.heap.size+1,[{ target:=.collected w.heap.size,args:=#[] }],W1,{ target:=.fn (.func gf) lb,args:=#[.func (.yield (w.heap.size+1)) #[] #[]] },W1,gf,
  #[.func (.yield (w.heap.size+1)) #[] #[]]++lb,W1,?_,?_,?_,?_,fun _=>by omega,?_⟩
 ·rw[← hW1];exact run_enterLoop_outer _ _ _ _ _
 ·simp only[resolve,hg]
  simp[go_sem]
 ·intro f' hf'
  trivial
 ·simp[invoke,go_sem,eg]
 ·refine callsIn_wide.2 ((hseq (w.heap.size+1) (fun i Yi A=>∃ Y,V i Yi A Y) (fun i Yi A=>∃ Y c,Vx i Yi A Y c) W1 (Held.of_kp (hk0.trans hb1)) (by have:=hk0.size;omega) (by omega) hV hVx ?_
   ⟨fun k=>k=w.heap.size∨k=w.heap.size+1,hI 0 _ _ w W1 h0 (fun k hk=>hk.elim) (Step.of_kp hb1) (fun k hk=>.inr (by rcases hk with rfl | rfl <;> omega)),fun k hk=>hk.elim,fun k hk=>.inr hk,fun k hk=>by rcases hk with rfl | rfl <;> omega,.inl rfl,.inr rfl,hD1,hL1⟩).mono ?_)
  ·rintro i Yi A v m hi ⟨Y,hIA,hyy,hyn,hyb,hyD,hyL,hd,hl⟩ hYi hRA0 hT
   have hRA:Held R w A:=⟨by have:=(hyb _ hyL).2;omega,fun k _ hr=>(hRA0.block k (hR0 k hr) hr).trans (hk0.block k (hR0 k hr)).symm⟩;have hlt:w.heap.size+1<A.heap.size:=(hyb _ hyL).2;have hy:=run_yield (P:=P) (args:=v) hl (hps i v Yi A hT);have hTY:∀ B,Step (fun k=>k=w.heap.size+1) A B→T i v Y B:=fun B hB=>hTT i v Yi Y A B _ _ hT hyy (fun k hk=>(hyn k hk).imp id (fun h=>h.elim (fun e=>⟨_,e▸hd,rfl⟩) (fun e=>⟨_,e▸hl,rfl⟩))) (by omega) hl hB
   have hRl:∀ k,R k→k≠w.heap.size+1:=fun k hk=>by have:=hR k hk;omega
   refine YieldAt.anyDepth m (m:=4) ⟨fn,_,assign,body,hy,roundIn_of_wpIn hfn (hassign _ i Y Yi v A _ hIA hT ?_)⟩;intro a' A1 hk1 hax;have hl1:=(hk1.block _ hlt).trans hl;have hd1:=(hk1.block _ (hyb _ hyD).2).trans hd;refine ⟨_,run_beginRound hl1 rfl,?_⟩;have hlt1:w.heap.size+1<A1.heap.size:=(Array.getElem?_eq_some_iff.1 hl1).1;obtain ⟨A2,hA2⟩:∃ A2,A1.putObj (w.heap.size+1) (.loop { rec' .ready none with state:=.busy })=A2:=⟨_,rfl⟩;rw[hA2];have hst0:Step (fun k=>k=w.heap.size+1) A A2:=by rw[← hA2];exact (Step.of_kp hk1).putObj _ _ (.inr rfl)
   have hst:Step Y A A2:=by rw[← hA2];exact (Step.of_kp hk1).putObj _ _ (.inr hyL)
   have hl2:A2.heap[w.heap.size+1]?=some (.loop { rec' .ready none with state:=.busy }):=by rw[← hA2];exact World.putObj_heap_same hlt1
   have hd2:A2.heap[w.heap.size]?=some (.deferred (some [])):=by rw[← hA2];exact (World.putObj_heap_other (by omega)).trans hd1
   have hax2:Ax v a' A2:=by rw[← hA2];exact hAx v a' A1 _ _ _ hax (by omega) hl1
   have hyb2:∀ k,Y k→w.heap.size≤k∧k<A2.heap.size:=fun k hk=>⟨(hyb k hk).1,Nat.lt_of_lt_of_le (hyb k hk).2 hst.size⟩
   have hI2:=hI i Y Y A A2 hIA hyb hst (fun k hk=>.inl hk);have hRA2:Held R w A2:=(hRA.trans (Held.of_step hst (fun k hk hy=>by have:=hR k hk;have:=(hyb k hy).1;omega)));refine wpIn_mono (hbody _ i Y v a' A2 hi hI2 hyb2 hRA2 (hTY A2 hst0) hax2) ?_;have fin:∀ (jump:Option Code) (B:World),Held (fun k=>Y k∨R k) A2 B→∃ B',(Instr.endRound (w.heap.size+1) jump).run P B=.ok (.bool jump.isNone) B' ∧
     B'.heap[w.heap.size+1]?=some (.loop (rec' (if jump.isNone then .ready else .done) jump))∧B'.heap[w.heap.size]?=some (.deferred (some []))∧Step Y B B'∧(∀ k,Y k→w.heap.size≤k∧k<B.heap.size)∧Held (fun k=>Yi k∨R k) A B':=fun jump B hh=>by
    have hl3:=(hh.block _ (hyb2 _ hyL).2 (.inl hyL)).trans hl2;have hd3:=(hh.block _ (hyb2 _ hyD).2 (.inl hyD)).trans hd2;have hlt3:w.heap.size+1<B.heap.size:=(Array.getElem?_eq_some_iff.1 hl3).1;have hnL:∀ k,Yi k∨R k→k≠w.heap.size+1:=fun k hk=>by
     rcases hk with h | h
     ·have:=(hYi _ h).1;omega
     ·exact hRl k h
    refine ⟨_,run_endRound (P:=P) jump hl3,World.putObj_heap_same hlt3,(World.putObj_heap_other (by omega)).trans hd3,(Step.refl Y B).putObj _ _ (.inr hyL),fun k hk=>⟨(hyb k hk).1,Nat.lt_of_lt_of_le (hyb2 k hk).2 hh.size⟩,⟨?_,fun k hk hr=>?_⟩⟩
    ·rw[acC];exact Nat.le_trans hst.size hh.size
    ·have e1:A2.heap[k]?=A.heap[k]?:=by
      rw[← hA2];exact (World.putObj_heap_other (hnL k hr)).trans (hk1.block k hk)
     refine (World.putObj_heap_other (hnL k hr)).trans ((hh.block k (Nat.lt_of_lt_of_le hk hst.size) ?_).trans e1);exact hr.elim (fun h=>.inl (hyy k h)) .inr
   have out:∀ (jump:Option Code) (B B':World),Step Y B B'→(∀ k,Y k→w.heap.size≤k∧k<B.heap.size)→(∀ k,Y k→w.heap.size≤k∧k<B'.heap.size):=fun _ B B' h hy k hk=>⟨(hy k hk).1,Nat.lt_of_lt_of_le (hy k hk).2 h.size⟩
   rintro e a3 B ⟨hh,hp⟩;have go:∀ c,ahR e=some c→Ix c i Y B→∃ v B',(Instr.endRound (w.heap.size+1) (some c)).run P B=.ok v B' ∧
     (Held (fun k=>Yi k∨R k) A B'∧((Ending.returned v=.returned (.bool true)∧∃ Y,V (i+1) Yi B' Y)∨(Ending.returned v=.returned (.bool false)∧∃ Y c,Vx i Yi B' Y c))):=fun c hc hx=>by
    obtain ⟨B',hr,hl3,hd3,hs3,hy3,hh3⟩:=fin (some c) B hh;exact ⟨_,B',hr,hh3,.inr ⟨rfl,Y,c,hIx c i Y Y B B' hx hy3 hs3 (fun k hk=>.inl hk),hyy,hyn,out none B B' hs3 hy3,hyD,hyL,hd3,hl3⟩⟩
   cases e with
   | normal=>
    rcases hp with ⟨_,hi3⟩ | ⟨c,hc,_⟩
    ·obtain ⟨B',hr,hl3,hd3,hs3,hy3,hh3⟩:=fin none B hh
     exact ⟨_,B',hr,hh3,.inl ⟨rfl,Y,hI (i+1) Y Y B B' hi3 hy3 hs3 (fun k hk=>.inl hk),hyy,hyn,out none B B' hs3 hy3,hyD,hyL,hd3,hl3⟩⟩
    ·cases hc
   | ret=>
    rcases hp with ⟨h,_⟩ | ⟨c,hc,hx⟩
    ·cases h
    ·cases hc;exact go _ rfl hx
   | exit id=>
    rcases hp with ⟨h,_⟩ | ⟨c,hc,hx⟩
    ·cases h
    ·cases hc;exact go _ rfl hx
   | goto t=>
    rcases hp with ⟨h,_⟩ | ⟨c,hc,hx⟩
    ·cases h
    ·cases hc;exact go _ rfl hx
   | panic ch=>
    rcases hp with ⟨h,_⟩ | ⟨c,hc,_⟩
    ·cases h
    ·cases hc
   | outgrown=>
    rcases hp with ⟨h,_⟩ | ⟨c,hc,_⟩
    ·cases h
    ·cases hc
  ·rintro e W2 ⟨⟨v,rfl⟩,Yi,hYi,(⟨Y,hi,hyy,hyn,hyb,hyD,hyL,hd,hl⟩ | ⟨i,hin,Y,c,hi,hyy,hyn,hyb,hyD,hyL,hd,hl⟩)⟩
   ·have hlt:w.heap.size+1<W2.heap.size:=(hyb _ hyL).2
    have hend:(Instr.endLoop (w.heap.size+1)).run P W2=.ok none (W2.putObj (w.heap.size+1) (.loop (rec' .exhausted none))):=run_endLoop (P:=P) hl (by simp[rec']);refine ⟨none,_,hend,hdone _ Y _ (Nat.le_refl _) hyD (fun k hk=>(hyb k hk).1) (hI N Y Y W2 _ hi hyb ((Step.refl _ _).putObj _ _ (.inr hyL)) (fun k hk=>.inl hk)) ((World.putObj_heap_other (by omega)).trans hd)⟩
   ·have hlt:w.heap.size+1<W2.heap.size:=(hyb _ hyL).2
    have hend:(Instr.endLoop (w.heap.size+1)).run P W2=.ok (some c) (W2.putObj (w.heap.size+1) (.loop (rec' .exhausted (some c)))):=run_endLoop (P:=P) hl (by simp[rec']);exact ⟨some c,_,hend,wpIn_wide.2 (hstop _ c i Y _ (Nat.le_refl _) hyD (fun k hk=>(hyb k hk).1) hin (hIx c i Y Y W2 _ hi hyb ((Step.refl _ _).putObj _ _ (.inr hyL)) (fun k hk=>.inl hk)) ((World.putObj_heap_other (by omega)).trans hd))⟩
attribute [local go_sem] Oper.semAt_some
theorem akh (a:Option Addr)(n c:Nat)(w:World):
  Calls Tryz.prog 144 #[.slice a n c] w fun e w'=>e=.returned (.func (.func 175) #[] #[.pointer (some ⟨w.heap.size,0,none⟩)])∧w.alloc (.cells #[.slice a n c] 34)=w':=by
 go_enter Tryz.func144,Tryz.ntmps144;go_wp2;go_ret;exact ⟨rfl,rfl⟩
theorem ahI (PL:List Nat)(N:Nat)(a:Option Addr)(c b1 gB off:Nat)(w:World)(hN:N≤100000)(h1:w.cell? ⟨b1,0,none⟩=some (.slice a N c))
  (hc:0<N→a=some ⟨gB,off,none⟩∧∀ i,i<N→w.cell? ⟨gB,off+i,none⟩=some (.int .i64 ((PL.getD i 0:Nat):Int))):
  alO Tryz.prog 175 #[.pointer (some ⟨b1,0,none⟩)] (fun i v _ _=>v=#[.int .i64 (((N - 1 - i:Nat)):Int),.int .i64 ((PL.getD (N - 1 - i) 0:Nat):Int)]) N (fun k=>k=b1∨k=gB) w:=by
 intro l J Jx W hh hl1 hl2 hJ hJx hY h0;have c1:=hh.cell h1 (.inl rfl);have HC1:=Lib.hid h1;have HJ:=Lib.hid hJ;have HY:=Lib.hid hY;have HC:=Lib.hid hc;have HH:=Lib.hid hh;have i0:IntKind.i64.wrap ((N:Int) - 1)=(N:Int) - 1:=IntWalk.i64_in _ (by omega);clear hJ hY h1 hc hh;refine (callsIn_wide (n:=5)).1 ?_;refine callsIn_of_wp Tryz.func175 rfl trivial ?_ rfl;simp only[Tryz.ntmps175,List.append_toArray,List.append_nil,List.size_toArray,List.length_cons,List.length_nil,Nat.reduceAdd,Nat.reduceSub,Array.replicate_succ,Array.replicate_zero,List.push_toArray,List.nil_append,List.cons_append];gi_wp2
 gi_loopw [3] (fun p wr=>∃ (i:Nat) (Y:Nat→Prop),i≤N∧p=.int .i64 ((N:Int) - 1 - (i:Int))∧Held (fun k=>k=b1∨k=gB) w wr∧J i Y wr∧(∀ k,Y k→W.heap.size≤k∧k<wr.heap.size)∧W.heap.size≤wr.heap.size) (fun p _=>(intOf p+1).toNat)
 case atStart=>exact ⟨0,_,by omega,by simp,HH.out,h0,fun _ h=>h.elim,Nat.le_refl _⟩
 case round=>
  clear c1 h0;obtain ⟨i,Y,hi,rfl,hhw,hjy,hyb,hsz⟩:=hrel;have hmx:Tryz.prog.follows .mixedOrders=true:=by kernel_rfl
  have hls:Tryz.prog.follows .lateStores=true:=by kernel_rfl
  have c1:=hhw.cell HC1.out (.inl rfl);by_cases hlt:i<N
  ·obtain ⟨M,hM⟩:∃ M,N - 1 - i=M:=⟨_,rfl⟩
   have hMi:(N:Int) - 1 - (i:Int)=(M:Int):=by omega
   obtain ⟨rfl,hcc⟩:=HC.out (by omega);have c2:=hhw.cell (hcc M (by omega)) (.inr rfl);have i2:(M:Int)<(N:Int):=by omega
   have i1:IntKind.i64.wrap ((M:Int) - 1)=(M:Int) - 1:=IntWalk.i64_in _ (by omega);have hTT:(#[.int .i64 (M:Int),.int .i64 ((PL.getD M 0:Nat):Int)]:Array Value)=#[.int .i64 (((N - 1 - i:Nat)):Int),.int .i64 ((PL.getD (N - 1 - i) 0:Nat):Int)]:=by rw[hM]
   obtain ⟨fn,tmps,assign,body,hy,hR⟩:=HY.out i Y wr #[.int .i64 (M:Int),.int .i64 ((PL.getD M 0:Nat):Int)] 4 hlt hjy hyb hhw hTT;have HM:=Lib.hid (And.intro hM (And.intro hlt hMi));have HYB:=Lib.hid (And.intro hyb (And.intro hhw hsz));rw[hMi];generalize ((PL.getD M 0:Nat):Int)=V at *;clear hcc hTT hM hMi hyb hhw hsz hjy hlt hi;gi_wp2
   refine hR.mono ?_;rintro e w2 ⟨hh2,(⟨rfl,hj2⟩ | ⟨rfl,hx2⟩)⟩
   ·have HH3:=Lib.hid (HYB.out.2.1.trans (hh2.mono (fun _ h=>.inr h)))
    have HB3:Hid (∀ k,Y k→W.heap.size≤k∧k<w2.heap.size):=fun k h=>⟨(HYB.out.1 k h).1,Nat.lt_of_lt_of_le (HYB.out.1 k h).2 hh2.size⟩
    have HS3:=Lib.hid (Nat.le_trans HYB.out.2.2 hh2.size);have HJ2:=Lib.hid hj2;clear hy hR hh2 hj2 c1 c2;gi_wp2
    go_roundw
    case rel=>exact ⟨i+1,Y,HM.out.2.1,by have:=HM.out;congr 1 <;> omega,HH3.out,HJ2.out,HB3.out,HS3.out⟩
    case measure=>have:=HM.out;simp[intOf] <;> omega
   ·have HB3:Hid (∀ k,Y k→W.heap.size≤k∧k<w2.heap.size):=fun k h=>⟨(HYB.out.1 k h).1,Nat.lt_of_lt_of_le (HYB.out.1 k h).2 hh2.size⟩
    have HX2:=Lib.hid hx2;clear hy hR hh2 hx2 c1 c2;gi_wp2
    refine bodyPost_ret (results_none rfl _ _ _) rfl ?_;exact ⟨⟨_,rfl⟩,Y,HB3.out,.inr ⟨i,HM.out.2.1,HX2.out⟩⟩
  ·obtain rfl:i=N:=by omega
   have hneg:¬(0:Int)≤(i:Int) - 1 - (i:Int):=by omega
   have e:(i:Int) - 1 - (i:Int) = -1:=by omega
   have HJY:=Lib.hid (And.intro hyb hjy);rw[e];clear hyb hjy hhw hsz hneg e;gi_wp2
   refine bodyPost_end (results_none rfl _ _ _) rfl ?_;exact ⟨⟨_,rfl⟩,Y,HJY.out.1,.inl HJY.out.2⟩
end Go.Proofs.YthmhklmkgkfcpaaGreatDoor
