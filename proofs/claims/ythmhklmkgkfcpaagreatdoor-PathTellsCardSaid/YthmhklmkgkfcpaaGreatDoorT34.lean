import Derived.Test.YthmhklmkgkfcpaaGreatDoorT15
import Derived.Test.YthmhklmkgkfcpaaGreatDoorT16
import Derived.Test.YthmhklmkgkfcpaaGreatDoorT17
import Derived.Test.YthmhklmkgkfcpaaGreatDoorT21
import Derived.Test.YthmhklmkgkfcpaaGreatDoorT22
import Derived.Test.YthmhklmkgkfcpaaGreatDoorT25
import Derived.Test.YthmhklmkgkfcpaaGreatDoorT26
import Derived.Test.YthmhklmkgkfcpaaGreatDoorT28
import Derived.Test.YthmhklmkgkfcpaaGreatDoorT30
import Derived.Test.YthmhklmkgkfcpaaGreatDoorT31
import Derived.Test.YthmhklmkgkfcpaaGreatDoorT32
import Derived.Test.YthmhklmkgkfcpaaGreatDoorT33
import Derived.Maps.OwnSet
set_option linter.unusedVariables false
set_option linter.unusedSimpArgs false
set_option maxHeartbeats 8000000
set_option maxRecDepth 100000
namespace Go.Proofs.YthmhklmkgkfcpaaGreatDoor
open Go.RowKit
def nS (who:List (List Int))(k:Nat):Nat:=((who.take k).map List.length).sum
theorem aoj {who:List (List Int)}{k:Nat}(h:k<who.length):nS who (k+1)=nS who k+(who.getD k []).length:=by
 unfold nS;rw[List.take_succ_eq_append_getElem h,List.map_append,List.sum_append,List.getD_eq_getElem?_getD,List.getElem?_eq_getElem h];simp
theorem arJ {who:List (List Int)}{M:Nat}(hM:∀ k,k<who.length→(who.getD k []).length≤M):∀ k,k≤who.length→nS who k≤k*M
 | 0,_=>by simp[nS]
 | k+1,h=>by
  rw[aoj (by omega),Nat.add_mul,Nat.one_mul]
  have:=arJ hM k (by omega)
  have:=hM k (by omega)
  omega
def stS (t:List Nod)(secret info:List UInt8)(who:List (List Int))(k:Nat):St:=⟨pubR (derB (secS secret k) abY),abS t secret info (secS secret k) (nS who k) (who.getD k [])⟩
theorem alH (t:List Nod)(secret info:List UInt8):∀ (l:List (List Int)) (s:List UInt8) (n k:Nat),k<l.length→(makeS t secret info s n l)[k]?=some ⟨pubR (derB (secS s k) abY),abS t secret info (secS s k) (n+nS l k) (l.getD k [])⟩
 | [],_,_,_,h=>absurd h (Nat.not_lt_zero _)
 | who :: l,s,n,0,_=>by simp[nS];rfl
 | who :: l,s,n,k+1,h=>by
  show (makeS t secret info (derB s ack) (n+who.length) l)[k]?=_
  rw[alH t secret info l _ _ k (by simpa using h)]
  have e1:secS (derB s ack) k=secS s (k+1):=by
   have:=ads s 1 k
   rw[Nat.add_comm] at this
   exact this.symm
  have e2:nS (who :: l) (k+1)=who.length+nS l k:=by simp[nS]
  rw[e1,e2,Nat.add_assoc]
  rfl
theorem amu {t:List Nod}{secret info:List UInt8}{who:List (List Int)}{k:Nat}(h:k<who.length):(makeS t secret info secret 0 who).take (k+1)=(makeS t secret info secret 0 who).take k++[stS t secret info who k]:=by
 have hl:=acT t secret info who secret 0;have hg:=alH t secret info who secret 0 k h;rw[List.take_succ_eq_append_getElem (by omega)];rw[List.getElem?_eq_getElem (by omega)] at hg;rw[Option.some.inj hg,Nat.zero_add];rfl
def seS (t:List Nod)(secret info s:List UInt8)(n:Nat)(l:List Int)(j:Nat):Se:=⟨ahs (ats t (l.getD j 0).toNat).pub (ac9 secret (n+j)),aht (ats t (l.getD j 0).toNat).pub (ac9 secret (n+j)) info s⟩
theorem aiS (t:List Nod)(secret info s:List UInt8):∀ (l:List Int) (n j:Nat),j<l.length→(abS t secret info s n l)[j]?=some (seS t secret info s n l j)
 | [],_,_,h=>absurd h (Nat.not_lt_zero _)
 | y :: l,n,0,_=>rfl
 | y :: l,n,j+1,h=>by
  show (abS t secret info s (n+1) l)[j]?=_
  rw[aiS t secret info s l (n+1) j (by simpa using h)]
  unfold seS
  rw[show n+1+j=n+(j+1) by omega]
  rfl
theorem amv {t:List Nod}{secret info s:List UInt8}{n j:Nat}{l:List Int}(h:j<l.length):(abS t secret info s n l).take (j+1)=(abS t secret info s n l).take j++[seS t secret info s n l j]:=by
 have hl:=acf t secret info s l n;have hg:=aiS t secret info s l n j h;rw[List.take_succ_eq_append_getElem (by omega)];rw[List.getElem?_eq_getElem (by omega)] at hg;rw[Option.some.inj hg]
theorem amw {t:List Nod}{K i k:Nat}(hr:aaa t K)(hi:i<2 ^ K)(hk:k<K):(whoF t i k).length≤2048∧∀ l∈whoF t i k,∃ y:Nat,l=(y:Int)∧y<t.length∧(ats t y).kind≠0:=by
 have hq:sq (i / 2 ^ k)<2 ^ (K - k):=by
  have h1:=afh (K:=K) (j:=0) (q:=i) (i:=k) (by simpa using hi) (by omega);rw[Nat.zero_add] at h1;obtain ⟨d,hd⟩:∃ d,K - k=d+1:=⟨K - k - 1,by omega⟩;rw[hd,aal] at h1 ⊢;generalize i / 2 ^ k=r at *;generalize 2 ^ d=D at *;unfold sq;split <;> omega
 have e:whoF t i k=resF t k (sq (i / 2 ^ k)):=als hr (by omega) hq;rw[e];refine ⟨?_,art hr k _ (by omega) hq⟩;have h1:=agS hr k _ (by omega) hq;have h2:=abH (K:=k+1) (by have:=hr.le;omega);have h3:=aal k;omega
theorem adc {t:List Nod}{K i a:Nat}(hr:aaa t K)(hi:i<2 ^ K)(ha:a<(whoN t i K).length):((whoN t i K).getD a []).length≤2048∧∀ j,j<((whoN t i K).getD a []).length→∃ y:Nat,((whoN t i K).getD a []).getD j 0=(y:Int)∧y<t.length∧(ats t y).kind≠0:=by
 have hl:=(aaE t i K).2;obtain ⟨k,k1,_,_,_,k5,_⟩:=aps (t:=t) (K:=K) (i:=i) (a:=a) [] [] [] (by omega);rw[k5];obtain ⟨f1,f2⟩:=amw hr hi k1;refine ⟨f1,fun j hj=>f2 _ ?_⟩;rw[List.getD_eq_getElem?_getD,List.getElem?_eq_getElem hj];exact List.getElem_mem hj
theorem numB4 {n:Nat}(h:n<4294967296):numB (n:Int) 4=be 4 n:=by
 unfold numB;rw[if_pos]
 ·rfl
 ·unfold ael
  refine ⟨by omega,by omega,by omega,?_⟩;show (n:Int)<4294967296
  omega
theorem akZ (pub half info b:List UInt8):(adr pub half info b).length=b.length+32:=ad3 _ _ _ _
theorem ak0 (t:List Nod)(K i:Nat){secret:List UInt8}(seed info:List UInt8)(hs:secret.length=32)(k j:Nat):
  (seAt (stAt (abk t K i seed secret info).step k).fors j).half.length≤64∧(seAt (stAt (abk t K i seed secret info).step k).fors j).b.length≤64:=by
 have hz:∀ l:List Se,l.length≤j→(seAt l j).half.length≤64∧(seAt l j).b.length≤64:=fun l h=>by
  have e:seAt l j=⟨[],[]⟩:=by unfold seAt;rw[List.getD_eq_getElem?_getD,List.getElem?_eq_none h];rfl
  rw[e];exact ⟨Nat.zero_le _,Nat.zero_le _⟩
 by_cases hk:k<(whoN t i K).length
 ·obtain ⟨n',e⟩:=aek t secret info (whoN t i K) secret 0 k hk
  show (seAt (stAt (makeS t secret info secret 0 (whoN t i K)) k).fors j).half.length≤64∧(seAt (stAt (makeS t secret info secret 0 (whoN t i K)) k).fors j).b.length≤64
  rw[e];by_cases hj:j<((whoN t i K).getD k []).length
  ·have e2:seAt (abS t secret info (secS secret k) n' ((whoN t i K).getD k [])) j=seS t secret info (secS secret k) n' ((whoN t i K).getD k []) j:=by
    unfold seAt;rw[List.getD_eq_getElem?_getD,aiS _ _ _ _ _ _ _ hj];rfl
   rw[e2];refine ⟨?_,?_⟩
   ·show (ahs _ _).length≤64
    unfold ahs;split
    ·rw[aa4];decide
    ·exact Nat.zero_le _
   ·show (aht _ _ _ _).length≤64
    unfold aht;split
    ·rw[akZ,acS hs];decide
    ·exact Nat.zero_le _
  ·exact hz _ (by rw[acf];omega)
 ·have e:stAt (abk t K i seed secret info).step k=⟨[],[]⟩:=by
   unfold stAt;rw[List.getD_eq_getElem?_getD,List.getElem?_eq_none (by have:=(adb t K i seed secret info).1;omega)];rfl
  rw[e];exact hz [] (Nat.zero_le _)
theorem amx {t:List Nod}{K i:Nat}{secret:List UInt8}(seed info:List UInt8)(hr:aaa t K)(hi:i<2 ^ K)(hs:secret.length=32):
  (∀ k j,(seAt (stAt (abk t K i seed secret info).step k).fors j).b.length≤1600)∧∀ j,j<(abk t K i seed secret info).step.length→(stAt (abk t K i seed secret info).step j).pub.length≤10000∧(stAt (abk t K i seed secret info).step j).fors.length≤10000∧∀ k,k<(stAt (abk t K i seed secret info).step j).fors.length→(seAt (stAt (abk t K i seed secret info).step j).fors k).half.length≤10000∧(seAt (stAt (abk t K i seed secret info).step j).fors k).b.length≤10000:=by
 have hf:=adb t K i seed secret info;refine ⟨fun k j=>Nat.le_trans (ak0 t K i seed info hs k j).2 (by decide),fun j hj=>⟨?_,?_,fun k _=>⟨Nat.le_trans (ak0 t K i seed info hs j k).1 (by decide),Nat.le_trans (ak0 t K i seed info hs j k).2 (by decide)⟩⟩⟩
 ·rw[(hf.2.2 j (by rw[← hf.1];exact hj)).2];decide
 ·rw[(hf.2.2 j (by rw[← hf.1];exact hj)).1]
  exact Nat.le_trans (adc (a:=j) hr hi (by rw[← hf.1];exact hj)).1 (by decide)
theorem aa2 {P:Program}{ops:Array Oper}{rest:List Oper}{o:Oper}{a:Act}{w:World}{Q:Exit→Act→World→Prop}(hgd:o.guard=none)(hd:o.dst=none)(ty:TypeId)(x y:Operand)(ho:o.op=.store ty x y)
  (b f:Nat) (v:Value) (hx:a.eval x=.pointer (some ⟨b,f,none⟩)) (hy:a.eval y=v) (h1:v.oneCell'=true) (ht:w.there b f 1) (hi:(P.info? ty).map (·.size)=some 1)
  (h:∀ w',w'=w.setCells b f [v]→wpList P ops Q rest a w'):wpList P ops Q (o :: rest) a w:=by
 have hc:v.cells=#[v]:=by cases v <;> first | rfl | cases h1
 have:=run_storeCells_cells (P:=P) b f [v] 0 w (fun j hj=>by simpa using (ht j (by simpa using hj)).1) (fun j hj=>by simpa using (ht j (by simpa using hj)).2)
  (fun z hz=>by simp at hz;subst hz;exact h1)
 have hrun:(storeVar ty ⟨b,f,none⟩ v).run P w=.ok () (w.setCells b f [v]):=by
  cases hq:P.info? ty with
  | none=>simp[hq] at hi
  | some i=>
   have hs:i.size=1:=by simpa [hq] using hi
   simp only[Nat.add_zero] at this;simp[storeVar,sizeOf,typeInfo,hq,hc,hs,this]
 refine wpList_plain hgd fun _ hK=>?_
 unfold Oper.wp execOp;simp only[ho,hx,hy,Instr.storeAt,Instr.sureAddr,Sem.run_bind,Sem.run_pure,Result.andThen_ok,hrun];refine hK _ _ ?_;rw[hd];exact h _ rfl
theorem agU:(Tryz.prog.info? 24).map (·.size)=some 1:=by kernel_rfl
theorem aif:(Tryz.prog.info? 34).map (·.size)=some 1:=by kernel_rfl
theorem aqX {N:Nat}{R:Nat→Value→Value→Value→Prop}(h:∀ i,i<N→∃ p u q,R i p u q):∃ P U Q:Nat→Value,∀ i,i<N→R i (P i) (U i) (Q i):=by
 have h':∀ i,∃ p u q,i<N→R i p u q:=fun i=>by
  by_cases hi:i<N
  ·obtain ⟨p,u,q,hr⟩:=h i hi
   exact ⟨p,u,q,fun _=>hr⟩
  ·exact ⟨undef,undef,undef,fun hh=>absurd hh hi⟩
 exact ⟨fun i=>(h' i).choose,fun i=>(h' i).choose_spec.choose,fun i=>(h' i).choose_spec.choose_spec.choose,fun i hi=>(h' i).choose_spec.choose_spec.choose_spec hi⟩
theorem aok (t:List Nod)(i:Nat)(hi:i<t.length):t.set i (ats t i)=t:=by
 rw[aey hi];exact List.set_getElem_self hi
theorem acV {P:Program}{ops:Array Oper}{rest:List Oper}{o:Oper}{a:Act}{w:World}{Q:Exit→Act→World→Prop}(hgd:o.guard=none)(hd:o.dst=none)(ty:TypeId)(x y:Operand)(ho:o.op=.store ty x y)
  (g f:Nat) (cs:List Value) (hx:a.eval x=.pointer (some ⟨g,f,none⟩)) (hy:a.eval y=.agg cs.toArray) (hl:cs.length=5) (hone:∀ z∈cs,z.oneCell'=true) (ht:w.there g f 5) (hi:(P.info? ty).map (·.size)=some 5)
  (h:∀ w',w'=w.setCells g f cs→wpList P ops Q rest a w'):wpList P ops Q (o :: rest) a w:=by
 refine wpList_store_mid hgd ty x y ho g f cs.toArray hx hy (by rw[List.size_toArray,hl];exact ht) (by rw[hi,List.size_toArray,hl]) (all_oneCell_toArray hone) ?_;rw[hd];exact h _ rfl
theorem NX.at {e ei:TypeId}{w:World}{B g N c:Nat}{t:List Nod}{P U H:Nat→Value}{S:Nat→Prop}(h:NX e ei w B (.slice (some ⟨g,0,none⟩) N c) t P U H S)(i:Nat)(hi:i<t.length):NAt w g (i*5) (ats t i) (P i) (U i) (H i):=by
 obtain ⟨us,k1,k2,k3⟩:=h.row;have hn:=h.len;subst hn;refine ⟨fun j x hj=>?_,h.ins i hi⟩;have hjl:j<5:=(List.getElem?_eq_some_iff.1 hj).1;rw[k1.cellAt (i*5+j) (by omega),k3 i hi j hjl];exact hj
theorem aap {P:Program}{fn:Func}{p q:Tmp}{ty:TypeId}(h:fn.results=#[.cell p ty,.tmp q])(tmps:Array Value)(w:World)(g:Nat)(t:TypeId)(cs:Array Value)(fr:Nat × Nat)(d:TypeDesc)(v:Value)
  (hp:tmps.getD p undef=.pointer (some ⟨g,0,none⟩)) (hg:w.heap[g]?=some (.cells cs t fr))
  (hu:P.underlying ty=some d) (hd:(match d with | .struct _ | .array _ _=>true | _=>false)=true) (hi:(P.info? ty).map (·.size)=some cs.size) (hq:tmps.getD q undef=v):
  (results fn tmps).run P w=.ok (.tuple #[.agg cs,v]) w:=by
 have hp':tmps[p]?.getD undef=.pointer (some ⟨g,0,none⟩):=by simpa using hp
 have hq':tmps[q]?.getD undef=v:=by simpa using hq
 simp[results,h,hp',hq',asAddr,run_loadVar_row w g t ty cs fr d hg hu hd hi]
theorem aan {P:Program}{ops:Array Oper}{rest:List Oper}{o:Oper}{a:Act}{w:World}{Q:Exit→Act→World→Prop}(hgd:o.guard=none)(hd:o.dst=none)(ty:TypeId)(x y:Operand)(ho:o.op=.store ty x y)
  (g:Nat) (T:TypeId) (cs vs:Array Value) (hx:a.eval x=.pointer (some ⟨g,0,none⟩)) (hy:a.eval y=.agg vs) (hb:Bx w g T cs) (hl:vs.size=cs.size) (hone:∀ z∈vs.toList,z.oneCell'=true) (hi:(P.info? ty).map (·.size)=some vs.size)
  (h:∀ w',Bx w' g T vs→w.grownBy w' (some g)→(∀ w0,Kp w0 w→w0.heap.size≤g→Kp w0 w')→wpList P ops Q rest a w'):wpList P ops Q (o :: rest) a w:=by
 refine wpList_store_mid hgd ty x y ho g 0 vs hx hy (by rw[hl];exact hb.there) hi (all_oneCell_toArray (cs:=vs.toList) hone) ?_;rw[hd];exact h _ (hb.fill vs hl) (aa0 w g 0 vs.toList 0) fun w0 k hg=>k.setCells hg vs.toList 0
theorem aol (k l:List UInt8):expL k (labI l [] 32) 32=derB k l:=by
 unfold derB labR expR;rw[if_pos (by decide)];rfl
theorem amA (vk:Value)(s:ByteArray)(k:List UInt8)(w:World)(hk:Rd w vk k)(hs:s.size≤300)(hkl:k.length≤2000):
  Calls Tryz.prog 32 #[vk,.string s] w fun e w'=>(∃ v,e=.returned v∧Rd w' v (derB k s.data.toList)∧aaN w.heap.size v)∧Kp w w':=by
 have HL:=Lib.hid (aiW vk s k w hk hs hkl);rw[aol] at HL;generalize derB k s.data.toList=D at *;obtain ⟨a,n,c,rfl⟩:=aab hk;clear hk hkl;go_enter Tryz.func32,Tryz.ntmps32;go_wp2_with fail;refine HL.out.mono ?_;rintro _ w1 ⟨⟨v,rfl,r1,nw⟩,k1⟩;have R1:=Lib.hid (And.intro r1 k1);obtain ⟨a1,n1,c1,rfl⟩:=aab r1;clear r1 k1 HL;go_wp2_with fail;go_ret;exact ⟨⟨_,rfl,R1.out.1,nw⟩,R1.out.2⟩
def hldS (own:Sd→Prop)(s:List UInt8)(xs:List Nat)(n:Nat):Sd→Prop:=fun y=>own y∨∃ a,a<n∧y=⟨((xs.getD a 0:Nat):Int),aaZ s a⟩
theorem aj9 {own:Sd→Prop}{s:List UInt8}{xs:List Nat}(y:Sd):hldS own s xs 0 y↔own y:=by
 unfold hldS;constructor
 ·rintro (h | ⟨a,h,_⟩)
  ·exact h
  ·omega
 ·exact .inl
theorem aka {own:Sd→Prop}{s:List UInt8}{xs:List Nat}{n:Nat}(hn:xs.Nodup)(hd:∀ a,own a→∀ x∈xs,a.node≠((x:Nat):Int))(h:n<xs.length)(y:Sd):
  hldS own s xs (n+1) y↔(y=⟨((xs.getD n 0:Nat):Int),aaZ s n⟩∨(hldS own s xs n y∧y.node≠((xs.getD n 0:Nat):Int))):=by
 have hg:∀ a,(ha:a<xs.length)→xs.getD a 0=xs[a]:=fun a ha=>by rw[List.getD_eq_getElem?_getD,List.getElem?_eq_getElem ha];rfl
 unfold hldS;constructor
 ·rintro (h1 | ⟨a,h1,rfl⟩)
  ·refine .inr ⟨.inl h1,?_⟩
   rw[hg n h];exact hd y h1 _ (List.getElem_mem h)
  ·by_cases e:a=n
   ·subst e;exact .inl rfl
   ·refine .inr ⟨.inr ⟨a,by omega,rfl⟩,?_⟩
    rw[hg n h,hg a (by omega)];intro e2;have e3:xs[a]'(by omega)=xs[n]:=by dsimp only at e2;omega
    exact e ((List.getElem_inj hn).1 e3)
 ·rintro (h1 | ⟨h1 | ⟨a,h1,h2⟩,_⟩)
  ·exact .inr ⟨n,by omega,h1⟩
  ·exact .inl h1
  ·exact .inr ⟨a,by omega,h2⟩
theorem akb {own:List Sd}{s:List UInt8}{xs:List Nat}(hn:xs.Nodup)(h:srt own)(hd:∀ a∈own,∀ x∈xs,a.node≠((x:Nat):Int)){r:List Sd}(hr:srt r)
 (hm:∀ y,y∈r↔hldS (fun y=>y∈own) s xs xs.length y):r=ownS own s xs:=apy hn h hd hr hm
open Classical in
noncomputable def ag9 (own:List Sd) (xs:List Nat):List Sd:=own.filter fun s=>decide (¬∃ x∈xs,((x:Nat):Int)=s.node)
theorem aoA (own:List Sd):ag9 own []=own:=by
 unfold ag9;rw[List.filter_eq_self];intro a _;simp
theorem aee {own:List Sd}{xs:List Nat}{y:Sd}:y∈ag9 own xs↔y∈own∧∀ x∈xs,((x:Nat):Int)≠y.node:=by
 unfold ag9;rw[List.mem_filter];simp
theorem amR {own:List Sd}{xs:List Nat}{n:Nat}(h:n<xs.length)(y:Sd):y∈ag9 own (xs.take (n+1))↔(y∈ag9 own (xs.take n)∧y.node≠((xs.getD n 0:Nat):Int)):=by
 rw[aee,aee,List.take_succ_eq_append_getElem h,List.getD_eq_getElem?_getD,List.getElem?_eq_getElem h];constructor
 ·rintro ⟨h1,h2⟩
  exact ⟨⟨h1,fun x hx=>h2 x (List.mem_append.2 (.inl hx))⟩,fun e=>h2 _ (List.mem_append.2 (.inr (List.mem_singleton.2 rfl))) e.symm⟩
 ·rintro ⟨⟨h1,h2⟩,h3⟩
  refine ⟨h1,fun x hx=>?_⟩;rcases List.mem_append.1 hx with hx | hx
  ·exact h2 x hx
  ·rw[List.mem_singleton] at hx
   subst hx;exact fun e=>h3 e.symm
theorem aoB {own:List Sd}(h:srt own)(xs:List Nat):srt (ag9 own xs):=List.Pairwise.sublist List.filter_sublist h
theorem adf {own:List Sd}{K i:Nat}:ag9 own (aag K 0 i)=af0 K i own:=rfl
def clrS (l:List Nat)(t:List Nod):List Nod:=l.foldl (fun o x=>o.set x aao) t
theorem ai8:∀ (l:List Nat) (t:List Nod),(clrS l t).length=t.length
 | [],_=>rfl
 | x :: l,t=>(ai8 l (t.set x aao)).trans (List.length_set ..)
theorem aoC {l:List Nat}{j:Nat}(h:j<l.length)(t:List Nod):clrS (l.take (j+1)) t=(clrS (l.take j) t).set (l.getD j 0) aao:=by
 unfold clrS;rw[List.take_succ_eq_append_getElem h,List.foldl_append,List.getD_eq_getElem?_getD,List.getElem?_eq_getElem h];rfl
theorem aoD:∀ (l:List Nat) (t:List Nod) (y:Nat),(∀ x∈l,x<t.length)→ats (clrS l t) y=if y∈l then aao else ats t y
 | [],_,_,_=>rfl
 | x :: l,t,y,h=>by
  show ats (clrS l (t.set x aao)) y=_
  rw[aoD l _ y (fun z hz=>by rw[List.length_set];exact h z (by simp[hz])),abu _ _ _ _ (h x (by simp))]
  by_cases e1:y∈l
  ·rw[if_pos e1,if_pos (by simp[e1])]
  ·rw[if_neg e1]
   by_cases e2:y=x
   ·rw[if_pos e2,if_pos (by simp[e2])]
   ·rw[if_neg e2,if_neg (by simp[e1,e2])]
theorem apU {t:List Nod}{K i:Nat}(hr:aaa t K)(hi:i<2 ^ K)(pub:List UInt8):clrS (aag K 0 i) (t.set (2*i) (aah (ats t (2*i)).name pub))=updT t i pub:=by
 have hl2:=hr.len2;have hlt:2*i<t.length:=by omega
 refine ank (by rw[ai8,List.length_set,aaa.updLen]) fun y=>?_
 rw[aoD _ _ _ (fun x hx=>by rw[List.length_set,hr.len];exact abh hi hx),abu _ _ _ _ hlt,hr.updAt hi];by_cases e:y=2*i
 ·subst e
  rw[if_neg (fun h=>by have:=abK h;omega),if_pos rfl,if_pos rfl]
 ·rw[if_neg e,if_neg e]
theorem amS {p:List St}{t:List Nod}{K i:Nat}(hr:aaa t K)(hk:(ats t (2*i)).kind=1){pub:List UInt8}(hp:pub.length=32)(hs:∀ a,a<(aac t i K).length→(stAt p a).pub.length=32):
  aaa (setS p 0 (aac t i K) (updT t i pub)) K:=by
 have hlt:=aaa.lt_of (t:=t) (x:=2*i) (by rw[hk];decide);have hl2:=hr.len2;have hi:i<2 ^ K:=by omega
 have hL:=aaa.updLen (t:=t) i pub;have hm:∀ x∈aac t i K,x<(updT t i pub).length:=fun x hx=>by rw[hL,hr.len];exact abh hi (aaU hx)
 refine (hr.upd hk hp).over (agb _ _ _ _) fun y=>?_
 by_cases hy:y∈aac t i K
 ·obtain ⟨a,ha,rfl⟩:=List.getElem_of_mem hy
  have e:=akQ p (aac t i K) 0 (updT t i pub) (ab0 t i K) hm a ha;rw[Nat.zero_add,List.getD_eq_getElem?_getD,List.getElem?_eq_getElem ha] at e;exact .inr ⟨abK (aaU hy),.inr ⟨_,hs a ha,e⟩⟩
 ·exact .inl (agc _ _ _ _ _ hm hy)
end Go.Proofs.YthmhklmkgkfcpaaGreatDoor
namespace Go.Proofs.YthmhklmkgkfcpaaGreatDoor
open Go.RowKit Go.Maps
theorem aoE:Keyed Tryz.prog 3:=int_keyed Tryz.underlying3
theorem aoF (w:World):(zeroValue 237).run Tryz.prog w=.ok (.agg #[]) w:=by kernel_rfl
theorem akc (n:Int)(w:World):(Instr.makeMap 236 (some (.int .i64 n))).run Tryz.prog w=.ok (.map (some w.heap.size)) (w.alloc (.map #[] 0)):=by
 simp[Instr.makeMap,run_underlying Tryz.underlying236,asInt,Result.andThen,newObj];rfl
def setH (g:List Int):DataW Unit:=setOf (.agg []) (g.map fun i=>Lit.int .i64 (2*i))
theorem aoG (g:List Int)(x:Int):setH (g++[x])=(setH g).put (.int .i64 (2*x)) (.agg []):=by
 unfold setH;rw[List.map_append,List.map_cons,List.map_nil,setOf_snoc]
theorem apV (g:List Int)(x:Int):Maps.has (setH g) (.int .i64 x)=decide (x∈g.map (2*·)):=by
 unfold setH;rw[has_setOf]
 ·by_cases h:x∈g.map (2*·)
  ·rw[decide_eq_true h,List.any_eq_true]
   obtain ⟨i,hi,rfl⟩:=List.mem_map.1 h;exact ⟨_,List.mem_map.2 ⟨i,hi,rfl⟩,by simp[Lit.sameKey]⟩
  ·rw[decide_eq_false h,List.any_eq_false]
   intro k hk;obtain ⟨i,hi,rfl⟩:=List.mem_map.1 hk;intro e;refine h (List.mem_map.2 ⟨i,hi,?_⟩);simpa [Lit.sameKey] using e
 ·intro k hk
  obtain ⟨i,hi,rfl⟩:=List.mem_map.1 hk;trivial
def Cnt (w:World)(v:Value)(g:List Int):Prop:=
 ∃ b m n,v=.func (.func 210) #[] #[.pointer (some ⟨b,0,none⟩)]∧Bx w b 236 #[.map (some m)]∧w.ownsMap Tryz.prog 3 (unitElem (H:=Unit)) m n (setH g)
theorem Cnt.kp {w w':World}{v:Value}{g:List Int}(h:Cnt w v g)(k:Kp w w'):Cnt w' v g:=by
 obtain ⟨b,m,n,e,h1,h2⟩:=h;exact ⟨b,m,n,e,h1.kp k,h2.kept ⟨k.os,k.tape,k.output,k.size,fun i hi _=>k.block i hi⟩ (row:=none) (by simp)⟩
theorem amT (b m n:Nat)(g:List Int)(x:Int)(w:World)(h1:Bx w b 236 #[.map (some m)])(h2:w.ownsMap Tryz.prog 3 (unitElem (H:=Unit)) m n (setH g))(hx:-9223372036854775808≤x∧x≤9223372036854775807):
  Calls Tryz.prog 210 #[.int .i64 x,.pointer (some ⟨b,0,none⟩)] w fun e w'=>e=.returned (.bool (!decide (x∈g.map (2*·))))∧Kp w w':=by
 have c0:=h1.cell 0;simp only[List.getElem?_toArray,List.getElem?_cons_zero] at c0;have hkey:Go.keyOf Tryz.prog 3 (.int .i64 x)=some (.int .i64 x):=keyOf_int_mk Tryz.underlying3 (WalkArith.wf_i64 (by omega));have HS:=Lib.hid (apV g x);have HM:=Lib.hid h2;clear h1 h2;go_enter Tryz.func210,Tryz.ntmps210;go_wp2_with (first
  | (at_lookup;refine wpList_lookup_own_unit _ rfl _ _ 236 rfl 3 237 aoE Tryz.underlying236 (aoF _) m n _ rfl HM.out _ _ rfl hkey ?_)
  | go_in)
 have KA:Hid (Kp w (w.alloc (.cells #[] 237))):=(Kp.refl _).alloc _;rw[HS.out];go_ret;exact ⟨rfl,KA.out⟩
theorem Cnt.call {w:World}{v:Value}{g:List Int}(h:Cnt w v g):
  ∃ b,v=.func (.func 210) #[] #[.pointer (some ⟨b,0,none⟩)]∧∀ (y:Int) (W:World),Kp w W→-9223372036854775808≤y∧y≤9223372036854775807 →
   Calls Tryz.prog 210 #[.int .i64 y,.pointer (some ⟨b,0,none⟩)] W fun e w'=>e=.returned (.bool (!decide (y∈g.map (2*·))))∧Kp W w':=by
 obtain ⟨b,m,n,e,h1,h2⟩:=h;exact ⟨b,e,fun y W k hy=>amT b m n g y W (h1.kp k) (h2.kept ⟨k.os,k.tape,k.output,k.size,fun i hi _=>k.block i hi⟩ (row:=none) (by simp)) hy⟩
theorem amU (v:Value)(g:List Int)(w:World)(hv:RI w v g)(hl:g.length≤100000)(hg:∀ i∈g,-1000000≤i∧i≤1000000):
  Calls Tryz.prog 178 #[v] w fun e w'=>(∃ r,e=.returned r∧Cnt w' r g)∧Kp w w':=by
 have hmm:=akc;have HV:=Lib.hid hv;obtain ⟨a,c,rfl,_,_⟩:=hv.shape;obtain ⟨GL,hGL⟩:∃ GL,g.length=GL:=⟨_,rfl⟩;rw[hGL] at HV hl ⊢;clear hv;go_enter Tryz.func178,Tryz.ntmps178;go_wp2_with fail;obtain ⟨WB,hWB⟩:∃ WB,(w.alloc (.map #[] 0)).alloc (.cells #[.map (some w.heap.size)] 236)=WB:=⟨_,rfl⟩;have hb0:Bx WB (w.heap.size+1) 236 #[.map (some w.heap.size)]:=by
  rw[← hWB];have:=Bx.new (w.alloc (.map #[] 0)) 236 #[.map (some w.heap.size)];rwa [World.size_alloc] at this
 have hm0:WB.ownsMap Tryz.prog 3 (unitElem (H:=Unit)) w.heap.size 0 (setH (g.take 0)):=by
  rw[← hWB];exact (World.ownsMap_made w Tryz.prog 3 (unitElem (H:=Unit))).alloc _
 have hk0:Kp w WB:=by rw[← hWB];exact ((Kp.refl _).alloc _).alloc _
 rw[hWB];clear hWB hmm;have HG:Hid (∀ i,i<GL→g.take (i+1)=g.take i++[g.getD i 0]∧-1000000≤g.getD i 0∧g.getD i 0≤1000000):=fun i hi=>by
  have hm:g.getD i 0∈g:=by rw[List.getD_eq_getElem?_getD,List.getElem?_eq_getElem (by omega)];exact List.getElem_mem _
  refine ⟨?_,hg _ hm⟩;rw[List.take_add_one,List.getD_eq_getElem?_getD,List.getElem?_eq_getElem (by omega)];rfl
 have HTE:Hid (g.take GL=g):=by unfold Hid;rw[← hGL];exact List.take_length
 clear hg hGL;have H0:=Lib.hid (And.intro hb0 (And.intro hm0 hk0));clear hb0 hm0 hk0;go_loopw[11] (fun x wr=>∃ i:Nat,i≤GL∧x=.int .i64 (i:Int)∧Bx wr (w.heap.size+1) 236 #[.map (some w.heap.size)]∧wr.ownsMap Tryz.prog 3 (unitElem (H:=Unit)) w.heap.size i (setH (g.take i))∧Kp w wr) (fun x _=>(GL - (intOf x).toNat))
 case atStart=>exact ⟨0,Nat.zero_le _,rfl,H0.out⟩
 case round=>
  obtain ⟨i,hi,rfl,hb,hm,hkp⟩:=hrel;have HR:=Lib.hid (And.intro hb (And.intro hm hkp));by_cases hlt:i<GL
  ·obtain ⟨gu,ou,rfl,_,hcu⟩:=(HV.out.kp hkp).at i hlt
   have cu2:=hcu i hlt;have cb:=hb.cell 0;simp only[List.getElem?_toArray,List.getElem?_cons_zero] at cb;obtain ⟨g1,g2,g3⟩:=HG.out i hlt;have i1:IntKind.i64.wrap ((i:Int)+1)=(i:Int)+1:=IntWalk.i64_in _ (by omega);have i3:(i:Int)<(GL:Int):=by omega
   have HG1:=Lib.hid g1;generalize g.getD i 0=X at *;have i2:IntKind.i64.wrap (2*X)=2*X:=IntWalk.i64_in _ (by omega);have hkey:Go.keyOf Tryz.prog 3 (.int .i64 (2*X))=some (.int .i64 (2*X)):=keyOf_int_mk Tryz.underlying3 (WalkArith.wf_i64 (by omega));have hn:i<maxLen:=by unfold maxLen;omega
   clear hcu hkp hb hm HG HV HTE g1 g2 g3;go_wp2_with (at_mapUpdate;refine wpList_mapUpdate_own _ rfl _ _ _ 236 rfl 3 237 aoE Tryz.underlying236 (unitElem (H:=Unit)) w.heap.size i _ rfl HR.out.2.1 hn _ _ _ rfl rfl hkey _ [] unitElem_mk ?_;intro w1 hown1 hgrow1)
   go_roundw
   case rel=>exact ⟨i+1,by omega,by go_num,HR.out.1.grown hgrow1 (by simp),by rw[HG1.out,aoG];exact hown1,Below.grown HR.out.2.2 hgrow1 HR.out.2.2.size (fun k hk=>by cases hk;exact Nat.le_refl _)⟩
   case measure=>simp[intOf];omega
  ·obtain rfl:i=GL:=by omega
   have hle:¬(i:Int)<(i:Int):=by omega
   clear hb hm hkp HG HV;go_wp2_with fail;go_ret;obtain ⟨r1,r2,r3⟩:=HR.out;rw[HTE.out] at r2;exact ⟨⟨_,rfl,_,_,_,rfl,r1,r2⟩,r3⟩
end Go.Proofs.YthmhklmkgkfcpaaGreatDoor
namespace Go.Proofs.YthmhklmkgkfcpaaGreatDoor
open Go.RowKit
theorem afA (l:List Int)(g:List Int)(i:Nat)(h:i<l.length):
  (l.take (i+1)).filter (fun i=>decide (i∉g))=(l.take i).filter (fun i=>decide (i∉g))++(if l.getD i 0∈g then [] else [l.getD i 0]):=by
 rw[List.take_add_one,List.getElem?_eq_getElem h,List.filter_append,List.getD_eq_getElem?_getD,List.getElem?_eq_getElem h];simp only[Option.toList_some,Option.getD_some];by_cases hx:l[i]∈g
 ·rw[if_pos hx];simp[hx]
 ·rw[if_neg hx];simp[hx]
theorem aha (g:List Int)(i:Int):2*i∈g.map (2*·)↔i∈g:=by
 constructor
 ·intro h
  obtain ⟨j,hj,e⟩:=List.mem_map.1 h;have:j=i:=by omega
  exact this▸hj
 ·exact fun h=>List.mem_map.2 ⟨i,h,rfl⟩
theorem ahb (v vc:Value)(n:Nod)(x:Int)(g:List Int)(w:World)(hv:NV w v n)(hn:adN n)(hc:Cnt w vc g)(hx:0≤x∧x≤1000000):
  Calls Tryz.prog 208 #[v,.int .i64 x,vc] w fun e w'=>(∃ r,e=.returned r∧NV w' r (if x∈g.map (2*·) then aao else afo n g))∧Kp w w':=by
 have S:=adM;obtain ⟨cb,rfl,hcl⟩:=hc.call;have HCL:=Lib.hid hcl;obtain ⟨p,ar1,h,rfl,ip,iu,ih⟩:=hv;have HIN:=Lib.hid (And.intro ip (And.intro iu ih));obtain ⟨ap,np,cp,rfl⟩:=aaw ip;obtain ⟨ah,nh,ch,rfl⟩:=aaw ih;obtain ⟨au,cu,rfl,pu,_⟩:=iu.shape;simp only[nodC];have hun:=hn.un;have hunl:=hn.unl;obtain ⟨WB,hWB⟩:∃ WB,(w.alloc (.cells #[.int .i64 n.kind,.int .i64 n.name,.slice ap np cp,.slice au n.un.length cu,.slice ah nh ch] 81)).alloc (.cells #[.int .i64 0,.int .i64 0,.slice none 0 0,.slice none 0 0,.slice none 0 0] 81)=WB:=⟨_,rfl⟩;have HWB:=Lib.hid hWB;have hb1:Bx WB w.heap.size 81 #[.int .i64 n.kind,.int .i64 n.name,.slice ap np cp,.slice au n.un.length cu,.slice ah nh ch]:=by rw[← hWB];exact (Bx.new _ _ _).kp ((Kp.refl _).alloc _)
 have hb2:Bx WB (w.heap.size+1) 81 #[.int .i64 0,.int .i64 0,.slice none 0 0,.slice none 0 0,.slice none 0 0]:=by
  rw[← hWB];have:=Bx.new (w.alloc (.cells #[.int .i64 n.kind,.int .i64 n.name,.slice ap np cp,.slice au n.un.length cu,.slice ah nh ch] 81)) 81 #[.int .i64 0,.int .i64 0,.slice none 0 0,.slice none 0 0,.slice none 0 0];rwa [World.size_alloc] at this
 have hkw:Kp w WB:=by rw[← hWB];exact ((Kp.refl _).alloc _).alloc _
 have hsz:WB.heap.size=w.heap.size+2:=by rw[← hWB];simp
 have HB1:=Lib.hid hb1;have HB2:=Lib.hid hb2;have HZ:=Lib.hid (And.intro hkw hsz);clear hWB hb1 hb2 hkw hsz hc hcl ip ih hn;by_cases hin:x∈g.map (2*·)
 ·rw[if_pos hin]
  have hcx:=Lib.hid (HCL.out x WB HZ.out.1 (by omega));rw[decide_eq_true hin] at hcx;clear hin hx HCL HIN iu hun hunl;go_enter Tryz.func208,Tryz.ntmps208;go_wp2_with fail;rw[HWB.out];refine hcx.out.mono ?_;rintro _ w2 ⟨rfl,k2⟩;have HB:=Lib.hid (HB2.out.kp k2);have HK2:=Lib.hid (HZ.out.1.trans k2);have HTH:=Lib.hid (HB.out.there);have hone:=af7 (n:=aao) (NIn.mk (aaM w2) (RI.nil w2) (aaM w2));clear k2 hcx HB1 HB2 HWB;go_wp2_with (refine acV rfl rfl 81 (.tmp 6) (.tmp 14) rfl (w.heap.size+1) 0 [.int .i64 0,.int .i64 0,.slice none 0 0,.slice none 0 0,.slice none 0 0] rfl rfl rfl hone HTH.out acH ?_;intro W3 hW3)
  have hb3:Bx W3 (w.heap.size+1) 81 #[.int .i64 0,.int .i64 0,.slice none 0 0,.slice none 0 0,.slice none 0 0]:=by rw[hW3];exact HB.out.fill #[.int .i64 0,.int .i64 0,.slice none 0 0,.slice none 0 0,.slice none 0 0] rfl
  have hk3:Kp w W3:=by rw[hW3];exact HK2.out.setCells (by omega) _ _
  refine bodyPost_ret (results_cell_row rfl _ _ (w.heap.size+1) _ _ (0,0) _ rfl hb3 Tryz.underlying81 rfl acH) rfl ?_;exact ⟨⟨_,rfl,NV.blank _⟩,hk3⟩
 ·rw[if_neg hin]
  have hcx:=Lib.hid (HCL.out x WB HZ.out.1 (by omega));rw[decide_eq_false hin] at hcx;obtain ⟨UL,hUL⟩:∃ UL,n.un.length=UL:=⟨_,rfl⟩;have HFT:=Lib.hid (afA n.un g);obtain ⟨F,hF⟩:∃ F:Nat→List Int,F=fun i=>(n.un.take i).filter (fun i=>decide (i∉g)):=⟨_,rfl⟩
  have hFi:∀ i,(n.un.take i).filter (fun i=>decide (i∉g))=F i:=fun i=>by rw[hF]
  have HFE:Hid (afo n g=⟨n.kind,n.name,n.pub,F UL,n.hash⟩):=by
   unfold Hid afo;rw[hF,← hUL];simp only[List.take_length]
  have HFL:Hid (∀ i,(F i).length≤100):=fun i=>by rw[hF];exact Nat.le_trans (List.length_filter_le _ _) (by rw[List.length_take];omega)
  have HF0:Hid (F 0=[]):=by rw[hF];rfl
  have HUB:Hid (∀ i,i<UL→0≤n.un.getD i 0∧n.un.getD i 0≤1023):=fun i hi=>by
   have hm:n.un.getD i 0∈n.un:=by rw[List.getD_eq_getElem?_getD,List.getElem?_eq_getElem (by omega)];exact List.getElem_mem _
   exact hun _ hm
  have HUN:Hid (∀ W,Kp w W→RI W (.slice au UL cu) n.un):=fun W hW=>by rw[← hUL];exact iu.kp hW
  rw[HFE.out];rw[hUL] at HWB HB1 HFT hunl pu HIN ⊢;simp only[hFi] at HFT;have HMT:=Lib.hid (aha g);clear hin hx iu hun hUL hF hFi HFE;go_enter Tryz.func208,Tryz.ntmps208;go_wp2_with fail;rw[HWB.out];refine hcx.out.mono ?_;rintro _ w2 ⟨rfl,k2⟩;have K2:=Lib.hid k2;have c3:=(HB1.out.kp k2).cell 3;simp only[List.getElem?_toArray,List.getElem?_cons_zero,List.getElem?_cons_succ] at c3;clear k2 hcx HWB;go_wp2_with fail;clear c3;go_loopw[7,18] (fun v x wr=>∃ i:Nat,i≤UL∧x=.int .i64 (i:Int)∧OI 3 wr WB.heap.size v (F i)∧Kp WB wr) (fun _ x _=>(UL - (intOf x).toNat))
  case atStart=>exact ⟨0,Nat.zero_le _,rfl,by rw[HF0.out];exact OI.nil _ _ _,K2.out⟩
  case round=>
   obtain ⟨i,hi,rfl,ho,hkp⟩:=hrel;have KR:=Lib.hid hkp;have HO:=Lib.hid ho;by_cases hlt:i<UL
   ·obtain ⟨gu,ou,rfl,_,hcu⟩:=(HUN.out _ (HZ.out.1.trans hkp)).at i hlt
    have cu2:=hcu i hlt;have i1:IntKind.i64.wrap ((i:Int)+1)=(i:Int)+1:=IntWalk.i64_in _ (by omega);have i3:(i:Int)<(UL:Int):=by omega
    have HFTi:=Lib.hid (HFT.out i (by have:=HUN.out _ (Kp.refl _);obtain ⟨_,_,e,_⟩:=this.shape;simp only[Value.slice.injEq] at e;omega));have hub:=HUB.out i hlt;have HFLi:=HFL.out i;generalize n.un.getD i 0=Y at *;have i2:IntKind.i64.wrap (2*Y)=2*Y:=IntWalk.i64_in _ (by omega);have hcy:=Lib.hid (HCL.out (2*Y) wr (HZ.out.1.trans hkp) (by omega));have hmt:=HMT.out Y;clear hcu hkp ho HFT HUN HFL HF0 HUB HCL HMT;by_cases hy:Y∈g
    ·rw[decide_eq_true (hmt.2 hy)] at hcy
     rw[if_pos hy,List.append_nil] at HFTi;clear hy hmt;go_wp2_with fail;refine hcy.out.mono ?_;rintro _ w3 ⟨rfl,k3⟩;have KE:=Lib.hid (And.intro (HO.out.kp k3) (KR.out.trans k3));clear k3 hcy HO KR;go_wp2_with fail;go_roundw
     case rel=>exact ⟨i+1,by omega,by go_num,by rw[HFTi.out];exact KE.out.1,KE.out.2⟩
     case measure=>simp[intOf];omega
    ·rw[decide_eq_false (fun h=>hy (hmt.1 h))] at hcy
     rw[if_neg hy] at HFTi;clear hy hmt;go_wp2_with fail;refine hcy.out.mono ?_;rintro _ w3 ⟨rfl,k3⟩;have KE:=Lib.hid (And.intro (HO.out.kp (k3.alloc (.cells #[.int .i64 Y] 3))) (KR.out.trans (k3.alloc (.cells #[.int .i64 Y] 3))));clear k3 hcy HO KR;go_wp2_with (at_builtin;refine aav S rfl _ _ rfl WB.heap.size _ (F i) rfl KE.out.1 _ [Y] rfl (RI.lit w3 3 #[.int .i64 Y] [Y] 1 rfl (by omega) rfl).ri (by simp;omega) KE.out.2.size ?_;intro v9 w9 o9 g9;have K9:=Lib.hid (Kp.grown KE.out.2 g9 (fun k hk=>(OI.lt KE.out.1 k hk).1)))
     go_roundw
     case rel=>exact ⟨i+1,by omega,by go_num,by rw[HFTi.out];exact o9,K9.out⟩
     case measure=>simp[intOf];omega
   ·obtain rfl:i=UL:=by omega
    have hle:¬(i:Int)<(i:Int):=by omega
    obtain ⟨av,nv,cv,rfl⟩:=ho.ri.sl;obtain ⟨hz1,hz2⟩:=HZ.out;have HBW:=Lib.hid (HB1.out.kp hkp);have HBV:=Lib.hid (HB2.out.kp hkp);have HKW:=Lib.hid (hz1.trans hkp);have HTH:Hid (wr.there w.heap.size 3 1):=fun j hj=>by have:=HBW.out.there (3+j) (by simp;omega);rwa [Nat.zero_add] at this
    clear hkp ho HFT HUN HFL HF0 HUB HCL HMT HB1 HB2 KR hi hlt K2;have hbv4:∀ W4,W4=wr.setCells w.heap.size 3 [.slice av nv cv]→Bx W4 w.heap.size 81 #[.int .i64 n.kind,.int .i64 n.name,.slice ap np cp,.slice av nv cv,.slice ah nh ch]∧Bx W4 (w.heap.size+1) 81 #[.int .i64 0,.int .i64 0,.slice none 0 0,.slice none 0 0,.slice none 0 0]∧RI W4 (.slice av nv cv) (F i)∧(Kp w W4∧∀ g',(Value.slice av nv cv).ownBlock=some g'→w.heap.size+2≤g'):=fun W4 e=>by
     have hgr:=aa0 wr w.heap.size 0 [.slice av nv cv] 3;have hlt:∀ g',(Value.slice av nv cv).ownBlock=some g'→w.heap.size+2≤g':=fun g' hg'=>by have:=(OI.lt HO.out g' hg').1;omega
     rw[e];exact ⟨HBW.out.set 3 (.slice av nv cv),HBV.out.grown hgr (by simp),(HO.out.grown9 hgr (fun g' hg' e=>by have:=hlt g' hg';simp at e;omega)).ri,HKW.out.setCells (Nat.le_refl _) _ _,hlt⟩
    have HB4:=Lib.hid hbv4;clear hbv4;go_wp2_with (first
     | (refine aa2 rfl rfl 34 (.tmp 32) (.tmp 31) rfl w.heap.size 3 (.slice av nv cv) rfl rfl rfl HTH.out aif ?_;intro W4 hW4;obtain ⟨hb4,hv4,hr4,hk4,hl4⟩:=HB4.out W4 hW4;have c0:=hb4.cell 0;have c1:=hb4.cell 1;have c2:=hb4.cell 2;have c3:=hb4.cell 3;have c4:=hb4.cell 4;simp only[List.getElem?_toArray,List.getElem?_cons_zero,List.getElem?_cons_succ] at c0 c1 c2 c3 c4;have HV4:=Lib.hid hv4;have HR4:=Lib.hid hr4;have HK4:=Lib.hid hk4;have HL4:=Lib.hid hl4;have HTH4:=Lib.hid hv4.there;clear hW4 hb4 hv4 hr4 hk4 hl4)
     | (refine acV rfl rfl 81 (.tmp 6) (.tmp 33) rfl (w.heap.size+1) 0 [.int .i64 n.kind,.int .i64 n.name,.slice ap np cp,.slice av nv cv,.slice ah nh ch] rfl rfl rfl (by intro z hz;simp only[List.mem_cons,List.not_mem_nil,or_false] at hz;rcases hz with rfl | rfl | rfl | rfl | rfl <;> rfl) HTH4.out acH ?_;intro W5 hW5))
    subst hW5;have hb5:=HV4.out.fill #[.int .i64 n.kind,.int .i64 n.name,.slice ap np cp,.slice av nv cv,.slice ah nh ch] rfl;have hk5:=HK4.out.setCells (b:=w.heap.size+1) (by omega) [.int .i64 n.kind,.int .i64 n.name,.slice ap np cp,.slice av nv cv,.slice ah nh ch] 0;have hap:aaq (.slice (some ⟨w.heap.size+1,0,none⟩) 0 0) (.slice av nv cv):=fun g' hg' y n c e h0 he=>by
     have h2:g'=w.heap.size+1:=by cases hg';rfl
     have h3:=HL4.out y.block (by rw[e];rfl);omega
    have hr5:=HR4.out.grown9 (v:=.slice (some ⟨w.heap.size+1,0,none⟩) 0 0) (aa0 W4 (w.heap.size+1) 0 [.int .i64 n.kind,.int .i64 n.name,.slice ap np cp,.slice av nv cv,.slice ah nh ch] 0) hap;refine bodyPost_ret (results_cell_row rfl _ _ (w.heap.size+1) _ _ (0,0) _ rfl hb5 Tryz.underlying81 rfl acH) rfl ?_;exact ⟨⟨_,rfl,⟨_,_,_,rfl,⟨HIN.out.1.kp hk5,hr5,HIN.out.2.2.kp hk5⟩⟩⟩,hk5⟩
structure MIn (w:World)(t o x y l:Value)(m:Md):Prop where
 mk ::
 tree:NL w t m.tree
 own:SL w o m.own
 path:PIn w x y m.path
 last:Rd w l m.last
def MV (w:World)(v:Value)(m:Md):Prop:=∃ t o x y l,v=.agg #[t,o,x,y,l]∧MIn w t o x y l m
theorem MIn.none (w:World):MIn w (.slice none 0 0) (.slice none 0 0) (.slice none 0 0) (.slice none 0 0) (.slice none 0 0) noMd:=⟨NL.nil w,arZ.nil w,⟨aaM w,arZ.nil w⟩,aaM w⟩
theorem aaX:(Tryz.prog.info? 47).map (·.size)=some 5:=by kernel_rfl
theorem one5 {a1 a2 a3 a4 a5:Option Addr}{n1 n2 n3 n4 n5 c1 c2 c3 c4 c5:Nat}:∀ z∈[Value.slice a1 n1 c1,.slice a2 n2 c2,.slice a3 n3 c3,.slice a4 n4 c4,.slice a5 n5 c5],z.oneCell'=true:=by
 intro z hz;simp only[List.mem_cons,List.not_mem_nil,or_false] at hz;rcases hz with rfl | rfl | rfl | rfl | rfl <;> rfl
theorem aje {own:List Sd}{info:List UInt8}:∀ (who:List Int) (f:List Se) (k:Nat),k≤who.length→(∀ j,j<k→(aaJ own (who.getD j 0)).length=0)→aa7 own info who f=aa7 own info (who.drop k) (f.drop k)
 | who,f,0,_,_=>by rw[List.drop_zero,List.drop_zero]
 | [],f,k+1,h,_=>absurd h (Nat.not_succ_le_zero _)
 | y :: l,f,k+1,h,hp=>by
  have h0:(aaJ own y).length=0:=hp 0 (Nat.succ_pos _)
  have e:aa7 own info (y :: l) f=aa7 own info l f.tail:=by
   show (if (aaJ own y).length=0 then _ else _)=_
   rw[if_pos h0]
  rw[e,aje l f.tail k (Nat.le_of_succ_le_succ h) fun j hj=>hp (j+1) (Nat.succ_lt_succ hj)]
  congr 1
  cases f with
  | nil=>simp
  | cons a f=>rfl
theorem aoI {own:List Sd}{info:List UInt8}{who:List Int}{f:List Se}{k:Nat}(hk:k<who.length)(hl:f.length=who.length)(hp:∀ j,j<k→(aaJ own (who.getD j 0)).length=0)(h:(aaJ own (who.getD k 0)).length≠0):
  aa7 own info who f=if (seAt f k).half.length≠32 then ([],5)
   else if unE (aaJ own (who.getD k 0)) (seAt f k).half info (seAt f k).b≠0 then ([],unE (aaJ own (who.getD k 0)) (seAt f k).half info (seAt f k).b)
   else if (unR (aaJ own (who.getD k 0)) (seAt f k).half info (seAt f k).b).length≠32 then ([],2)
   else (unR (aaJ own (who.getD k 0)) (seAt f k).half info (seAt f k).b,0):=by
 rw[aje who f k (by omega) hp];have e1:who.drop k=who.getD k 0 :: who.drop (k+1):=by
  rw[List.drop_eq_getElem_cons hk,List.getD_eq_getElem?_getD,List.getElem?_eq_getElem hk];rfl
 have e2:f.drop k=seAt f k :: f.drop (k+1):=by
  unfold seAt;rw[List.drop_eq_getElem_cons (by omega),List.getD_eq_getElem?_getD,List.getElem?_eq_getElem (by omega)];rfl
 rw[e1,e2];show (if (aaJ own (who.getD k 0)).length=0 then _ else _)=_
 rw[if_neg h];rfl
theorem am1 {own:List Sd}{info:List UInt8}{who:List Int}{f:List Se}(hp:∀ j,j<who.length→(aaJ own (who.getD j 0)).length=0):aa7 own info who f=([],5):=by
 rw[aje who f who.length (Nat.le_refl _) hp,List.drop_length];rfl
theorem aoK {t:List Nod}{K i me:Nat}{own:List Sd}(hr:aaa t K)(hki:(ats t (2*i)).kind=1)(hne:i≠me)(hs:aaY t K (me:Int) own):
  kM t i me<(aac t i K).length∧(aac t i K).getD (kM t i me) 0=coN i me∧∀ j,j<kM t i me→(aac t i K).getD j 0≠coN i me:=by
 have hkm:=(hr.there_iff me).1 hs.1;have hlen:=hr.len2;have hi:i<2 ^ K:=by have:=aaa.lt_of (t:=t) (x:=2*i) (by rw[hki];decide);omega
 have hm:me<2 ^ K:=by have:=aaa.lt_of (t:=t) (x:=2*me) (by rw[hkm];decide);omega
 obtain ⟨m1,m2,_,_⟩:=ada hr.le hi hm hne;obtain ⟨y,hy,hyk⟩:=aiM hr hi hkm hm hne hs;obtain ⟨k1,k2,k3,k4⟩:=aqV (K:=K) ⟨m1,m2⟩ (List.length_pos_of_mem hy);have hl:=(aaE t i K).1;refine ⟨by omega,k4,fun j hj e=>?_⟩;have hnd:=ab0 t i K;have e2:(aac t i K).getD j 0=(aac t i K).getD (kM t i me) 0:=e.trans k4.symm;rw[List.getD_eq_getElem?_getD,List.getD_eq_getElem?_getD,List.getElem?_eq_getElem (by omega),List.getElem?_eq_getElem (by omega)] at e2;exact List.pairwise_iff_getElem.1 hnd j (kM t i me) (by omega) (by omega) hj e2
theorem ar2 {l:List Nat}{a b:Nat}:(l.drop a).getD b 0=l.getD (a+b) 0:=by
 rw[List.getD_eq_getElem?_getD,List.getD_eq_getElem?_getD,List.getElem?_drop]
end Go.Proofs.YthmhklmkgkfcpaaGreatDoor
