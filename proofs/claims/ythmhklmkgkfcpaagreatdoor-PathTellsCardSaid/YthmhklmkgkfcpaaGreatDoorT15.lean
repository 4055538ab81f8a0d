import Derived.Test.YthmhklmkgkfcpaaGreatDoorT5
import Derived.Test.YthmhklmkgkfcpaaGreatDoorT6
import Derived.Test.YthmhklmkgkfcpaaGreatDoorT14
import Derived.WalkMore
set_option linter.unusedVariables false
set_option linter.unusedSimpArgs false
set_option maxHeartbeats 8000000
set_option maxRecDepth 100000
namespace Go.Proofs.YthmhklmkgkfcpaaGreatDoor
open Go.RowKit
def iv (n:Nat):Value:=.int .i64 (n:Int)
def RN (w:World)(v:Value)(l:List Nat):Prop:=Vals w v (l.map iv)
def ON (e:TypeId)(w:World)(B:Nat)(v:Value)(l:List Nat):Prop:=w.ownsRow B e 1 v (l.map iv).length (l.map iv)
theorem RN.kp {w w':World}{v:Value}{l:List Nat}(h:RN w v l)(k:Kp w w'):RN w' v l:=Vals.kp h k
theorem RN.nil (w:World):RN w (.slice none 0 0) []:=Vals.nil w
theorem RN.shape {w:World}{v:Value}{l:List Nat}(h:RN w v l):∃ a c,v=.slice a l.length c∧l.length≤c∧c≤maxLen:=by
 have:=Vals.shape h;rwa [List.length_map] at this
theorem RN.at {w:World}{a:Option Addr}{n c:Nat}{l:List Nat}(h:RN w (.slice a n c) l)(k:Nat)(hk:k<n):
  ∃ b off,a=some ⟨b,off,none⟩∧b<w.heap.size∧∀ i,i<n→w.cell? ⟨b,off+i,none⟩=some (.int .i64 ((l.getD i 0:Nat):Int)):=by
 obtain ⟨b,off,ha,hb,hc⟩:=Vals.at h k hk;have hn:n=l.length:=by
  obtain ⟨a',c',e,_⟩:=h.shape;simp only[Value.slice.injEq] at e;exact e.2.1
 refine ⟨b,off,ha,hb,fun i hi=>?_⟩;rw[hc i hi,List.getD_eq_getElem?_getD,List.getElem?_map,List.getElem?_eq_getElem (by omega),List.getD_eq_getElem?_getD,List.getElem?_eq_getElem (by omega)];rfl
theorem ON.rn {e:TypeId}{w:World}{B:Nat}{v:Value}{l:List Nat}(h:ON e w B v l):RN w v l:=Vals.own h
theorem ON.nil (e:TypeId)(w:World)(B:Nat):ON e w B (.slice none 0 0) []:=World.ownsRow_nil _ _ _ _
theorem ON.kp {e:TypeId}{w w':World}{B:Nat}{v:Value}{l:List Nat}(h:ON e w B v l)(k:Kp w w'):ON e w' B v l:=by
 refine ⟨h.1,?_⟩;rcases h.2 with hn | ⟨g,cap,cur,rfl,hb,hg,rest⟩
 ·exact .inl hn
 ·exact .inr ⟨g,cap,cur,rfl,hb,(Below.block k g (Array.getElem?_eq_some_iff.1 hg).1).trans hg,rest⟩
theorem ON.own_ge {e:TypeId}{w:World}{B:Nat}{v:Value}{l:List Nat}(h:ON e w B v l):∀ k,v.ownBlock=some k→B≤k:=fun k hk=>(World.ownsRow.lt h k hk).1
theorem RN.sl {w:World}{v:Value}{l:List Nat}(h:RN w v l):∃ a n c,v=.slice a n c:=by
 obtain ⟨a,c,e,_⟩:=h.shape;exact ⟨_,_,_,e⟩
theorem ON.lit1 (w:World)(e:TypeId)(n:Nat):RN (w.alloc (.cells #[.int .i64 (n:Int)] e)) (.slice (some ⟨w.heap.size,0,none⟩) 1 1) [n]:=
 Vals.own (af6 w e (iv n))
theorem acy {P:Program}{w:World}{t e:TypeId}(S:arW P t e){ops:Array Oper}{rest:List Oper}{o:Oper}{a:Act}{Q:Exit→Act→World→Prop}(hgd:o.guard=none)(s x:Operand)
  (ho:o.op=.call { callee:=.builtin .append,args:=#[s,x],argTypes:=#[t,t] })
  (B:Nat) (v:Value) (l:List Nat) (hs:a.eval s=v) (hown:ON e w B v l) (u:Value) (n:Nat) (hx:a.eval x=u) (hu:RN w u [n]) (hlen:l.length≤1000000) (hbase:B≤w.heap.size)
  (h:∀ v' w',ON e w' B v' (l++[n])→w.grownBy w' v.ownBlock→wpList P ops Q rest (a.put o.dst v') w'):wpList P ops Q (o :: rest) a w:=by
 refine abJ S hgd s x ho B v (l.map iv) hs hown u [iv n] hx hu (fun z hz=>by simp at hz;subst hz;rfl) (by rw[List.length_map];simp;omega) hbase (fun v' w' h1 h2=>h v' w' ?_ h2);unfold ON;rw[List.map_append];exact h1
def nI (n:Int):Value:=.int .i64 n
def RI (w:World)(v:Value)(l:List Int):Prop:=Vals w v (l.map nI)
def OI (e:TypeId)(w:World)(B:Nat)(v:Value)(l:List Int):Prop:=w.ownsRow B e 1 v (l.map nI).length (l.map nI)
theorem RI.kp {w w':World}{v:Value}{l:List Int}(h:RI w v l)(k:Kp w w'):RI w' v l:=Vals.kp h k
theorem RI.nil (w:World):RI w (.slice none 0 0) []:=Vals.nil w
theorem RI.shape {w:World}{v:Value}{l:List Int}(h:RI w v l):∃ a c,v=.slice a l.length c∧l.length≤c∧c≤maxLen:=by
 have:=Vals.shape h;rwa [List.length_map] at this
theorem RI.sl {w:World}{v:Value}{l:List Int}(h:RI w v l):∃ a n c,v=.slice a n c:=by
 obtain ⟨a,c,e,_⟩:=h.shape;exact ⟨_,_,_,e⟩
theorem RI.at {w:World}{a:Option Addr}{n c:Nat}{l:List Int}(h:RI w (.slice a n c) l)(k:Nat)(hk:k<n):
  ∃ b off,a=some ⟨b,off,none⟩∧b<w.heap.size∧∀ i,i<n→w.cell? ⟨b,off+i,none⟩=some (.int .i64 (l.getD i 0)):=by
 obtain ⟨b,off,ha,hb,hc⟩:=Vals.at h k hk;have hn:n=l.length:=by
  obtain ⟨a',c',e,_⟩:=h.shape;simp only[Value.slice.injEq] at e;exact e.2.1
 refine ⟨b,off,ha,hb,fun i hi=>?_⟩;rw[hc i hi,List.getD_eq_getElem?_getD,List.getElem?_map,List.getElem?_eq_getElem (by omega),List.getD_eq_getElem?_getD,List.getElem?_eq_getElem (by omega)];rfl
theorem RN.ri {w:World}{v:Value}{l:List Nat}(h:RN w v l):RI w v (l.map fun (n:Nat)=>(n:Int)):=by
 unfold RI;rw[List.map_map];exact h
theorem ON.oi {e:TypeId}{w:World}{B:Nat}{v:Value}{l:List Nat}(h:ON e w B v l):OI e w B v (l.map fun (n:Nat)=>(n:Int)):=by
 unfold OI;rw[List.map_map];exact h
theorem OI.ri {e:TypeId}{w:World}{B:Nat}{v:Value}{l:List Int}(h:OI e w B v l):RI w v l:=Vals.own h
theorem OI.nil (e:TypeId)(w:World)(B:Nat):OI e w B (.slice none 0 0) []:=World.ownsRow_nil _ _ _ _
theorem adg {w w':World}{B C:Nat}{e:TypeId}{n:Nat}{v:Value}{us:List Value}(h:w.ownsRow B e C v n us)(k:Kp w w'):w'.ownsRow B e C v n us:=by
 refine ⟨h.1,?_⟩;rcases h.2 with hn | ⟨g,cap,cur,rfl,hb,hg,rest⟩
 ·exact .inl hn
 ·exact .inr ⟨g,cap,cur,rfl,hb,(Below.block k g (Array.getElem?_eq_some_iff.1 hg).1).trans hg,rest⟩
theorem OI.kp {e:TypeId}{w w':World}{B:Nat}{v:Value}{l:List Int}(h:OI e w B v l)(k:Kp w w'):OI e w' B v l:=adg h k
theorem OI.mono {e:TypeId}{w:World}{B C:Nat}{v:Value}{l:List Int}(h:OI e w B v l)(hb:C≤B):OI e w C v l:=by
 refine ⟨h.1,?_⟩;rcases h.2 with hn | ⟨g,cap,cur,e1,h1,rest⟩
 ·exact .inl hn
 ·exact .inr ⟨g,cap,cur,e1,by omega,rest⟩
theorem OI.lt {e:TypeId}{w:World}{B:Nat}{v:Value}{l:List Int}(h:OI e w B v l):∀ k,v.ownBlock=some k→B≤k∧k<w.heap.size:=fun k hk=>World.ownsRow.lt h k hk
theorem RI.lit (w:World)(e:TypeId)(cs:Array Value)(l:List Int)(n:Nat)(hn:l.length=n)(hm:n≤1000000)(hc:cs.toList=l.map nI):
  OI e (w.alloc (.cells cs e)) w.heap.size (.slice (some ⟨w.heap.size,0,none⟩) n n) l:=by
 subst hn;have hl:(l.map nI).length=l.length:=List.length_map ..;unfold OI;rw[hl];have h2:(w.alloc (.cells cs e)).ownsRow w.heap.size e 1 (.slice (some ⟨w.heap.size,0,none⟩) l.length l.length) l.length cs.toList:=
  World.ownsRow_lit w cs l.length (Nat.le_refl _) (by unfold maxLen;omega) (by rw[← Array.length_toList,hc,hl];omega)
 rw[hc] at h2;exact h2
theorem aav {P:Program}{w:World}{t e:TypeId}(S:arW P t e){ops:Array Oper}{rest:List Oper}{o:Oper}{a:Act}{Q:Exit→Act→World→Prop}(hgd:o.guard=none)(s x:Operand)
  (ho:o.op=.call { callee:=.builtin .append,args:=#[s,x],argTypes:=#[t,t] })
  (B:Nat) (v:Value) (l:List Int) (hs:a.eval s=v) (hown:OI e w B v l) (u:Value) (m:List Int) (hx:a.eval x=u) (hu:RI w u m) (hlen:l.length+m.length≤1000000) (hbase:B≤w.heap.size)
  (h:∀ v' w',OI e w' B v' (l++m)→w.grownBy w' v.ownBlock→wpList P ops Q rest (a.put o.dst v') w'):wpList P ops Q (o :: rest) a w:=by
 refine abJ S hgd s x ho B v (l.map nI) hs hown u (m.map nI) hx hu (fun z hz=>?_) (by rw[List.length_map,List.length_map];omega) hbase (fun v' w' h1 h2=>h v' w' ?_ h2)
 ·obtain ⟨n,_,rfl⟩:=List.mem_map.1 hz
  rfl
 ·unfold OI
  rw[List.map_append];exact h1
theorem Tryz.info83:(Tryz.prog.info? 3).map (fun i=>(i.zero,i.size,i.bytes))=some (some (.int .i64 0),1,8):=by kernel_rfl
theorem adM:arW Tryz.prog 34 3:=arW.mk' Tryz.underlying34 Tryz.info83 (by decide) rfl
theorem ahu (x n:Int)(w:World)(hn2:-9223372036854775808≤n∧n≤9223372036854775807):Calls Tryz.prog 130 #[.int .i64 x,.int .i64 n] w fun e w'=>e=.returned (.tuple #[.int .i64 (siV x n),.int .i64 (paE x n)])∧w=w':=by
 have HP:=Lib.hid (adu x n w hn2);by_cases h:inB x n=true
 ·obtain ⟨K,j,q,hK,rfl,rfl,hj,hq⟩:=(acY x n).1 h
  by_cases hr:j=K
  ·subst hr
   have hq0:q=0:=by simp at hq;exact hq
   subst hq0;obtain ⟨e1,e2,e3⟩:=ana hK;rw[e1,e2] at HP;rw[e1,e3];clear h e1 e2 e3 hn2 hq hj;go_enter Tryz.func130,Tryz.ntmps130;go_wp2_with fail;refine HP.out.mono ?_;rintro _ _ ⟨rfl,rfl⟩;go_wp2_with fail;go_ret2;exact ⟨rfl,rfl⟩
  ·obtain ⟨e1,e2,e3⟩:=anb (K:=K) (j:=j) (q:=q) hK (by omega) hq
   have hj1:j+1≤10:=by omega
   have hq2:q / 2<2 ^ (10 - (j+1)):=by
    have h5:q<2 ^ (10 - j):=(aa1 hK hj hq).2.2;have e:10 - j=(10 - (j+1))+1:=by omega
    rw[e,aal] at h5;omega
   obtain ⟨f1,f2,f3⟩:=adG (j:=j) (q:=q / 2) hj1 hq2;have HL:=Lib.hid (adt ((nd (j+1) (q / 2):Nat):Int) w);have HR:=Lib.hid (acU ((nd (j+1) (q / 2):Nat):Int) w);rw[f1,f2] at HL;rw[f1,f3] at HR;rw[e1,e2] at HP;rw[e1,e3];by_cases hq0:q % 2=0
   ·have h1:2*(q / 2)=q:=by omega
    have h2:2*(q / 2)+1=sq q:=by unfold sq;rw[if_pos hq0];omega
    rw[h2] at HR;rw[h1] at HL;generalize ((nd j q:Nat):Int)=X at *;generalize ((nd j (sq q):Nat):Int)=Y at *;generalize ((nd (j+1) (q / 2):Nat):Int)=P at *;clear h e1 e2 e3 hn2 hq hj f1 f2 f3 hr hj1 hq2 hq0 h1 h2;go_enter Tryz.func130,Tryz.ntmps130;go_wp2_with fail;refine HP.out.mono ?_;rintro _ _ ⟨rfl,rfl⟩;go_wp2_with fail;refine HL.out.mono ?_;rintro _ _ ⟨rfl,rfl⟩;go_wp2_with fail;refine HR.out.mono ?_;rintro _ _ ⟨rfl,rfl⟩;go_wp2_with fail;go_ret2;exact ⟨rfl,rfl⟩
   ·have h1:2*(q / 2)+1=q:=by omega
    have h2:2*(q / 2)=sq q:=by unfold sq;rw[if_neg hq0];omega
    have hne:¬((nd j (sq q):Nat):Int)=((nd j q:Nat):Int):=fun h3=>by
     have:=(aeN (Int.ofNat.inj h3)).2;omega
    rw[h1] at HR;rw[h2] at HL;generalize ((nd j q:Nat):Int)=X at *;generalize ((nd j (sq q):Nat):Int)=Y at *;generalize ((nd (j+1) (q / 2):Nat):Int)=P at *;have hb:(Y==X)=false:=beq_eq_false_iff_ne.2 hne;clear h e1 e2 e3 hn2 hq hj f1 f2 f3 hr hj1 hq2 hq0 h1 h2;go_enter Tryz.func130,Tryz.ntmps130;go_wp2_with fail;refine HP.out.mono ?_;rintro _ _ ⟨rfl,rfl⟩;go_wp2_with fail;refine HL.out.mono ?_;rintro _ _ ⟨rfl,rfl⟩;go_wp2_with fail;refine HR.out.mono ?_;rintro _ _ ⟨rfl,rfl⟩;go_wp2_with fail;go_ret2;exact ⟨rfl,rfl⟩
 ·obtain ⟨e1,e2,e3⟩:=ari h
  rw[e1,e2] at HP;rw[e1,e3];clear h e1 e2 e3 hn2;go_enter Tryz.func130,Tryz.ntmps130;go_wp2_with fail;refine HP.out.mono ?_;rintro _ _ ⟨rfl,rfl⟩;go_wp2_with fail;go_ret2;exact ⟨rfl,rfl⟩
structure Way (K j q:Nat):Prop where
 node:∀ i,i≤K - j→0≤((nd (j+i) (q / 2 ^ i):Nat):Int)∧((nd (j+i) (q / 2 ^ i):Nat):Int)≤2046∧lev (nd (j+i) (q / 2 ^ i))=j+i
 root:∀ i,i≤K - j→(((nd (j+i) (q / 2 ^ i):Nat):Int)=((2 ^ K:Nat):Int) - 1↔i=K - j)
 up:∀ i,i<K - j→paE ((nd (j+i) (q / 2 ^ i):Nat):Int) ((2 ^ K:Nat):Int)=0∧paV ((nd (j+i) (q / 2 ^ i):Nat):Int) ((2 ^ K:Nat):Int)=((nd (j+(i+1)) (q / 2 ^ (i+1)):Nat):Int)∧siV ((nd (j+i) (q / 2 ^ i):Nat):Int) ((2 ^ K:Nat):Int)=((nd (j+i) (sq (q / 2 ^ i)):Nat):Int)
theorem way {K j q:Nat}(hK:K≤10)(hj:j≤K)(hq:q<2 ^ (K - j)):Way K j q:=by
 have hl:∀ i,i≤K - j→q / 2 ^ i<2 ^ (K - (j+i)):=fun i hi=>afh hq hi
 refine ⟨fun i hi=>?_,fun i hi=>?_,fun i hi=>?_⟩
 ·obtain ⟨h1,h2,h3⟩:=aa1 hK (j:=j+i) (by omega) (hl i hi)
  exact ⟨by omega,by omega,adR _ _ (by omega)⟩
 ·have h1:=ahN (hl i hi) (show j+i≤K by omega)
  have h2:=aaz K;generalize nd (j+i) (q / 2 ^ i)=X at *;generalize 2 ^ K=N at *;constructor
  ·intro h3
   have:=h1.1 (by omega);omega
  ·intro h3
   have:=h1.2 (by omega);omega
 ·obtain ⟨e1,e2,e3⟩:=anb (K:=K) (j:=j+i) (q:=q / 2 ^ i) hK (by omega) (hl i (by omega))
  refine ⟨e1,?_,e3⟩;rw[e2,agl];rfl
theorem aeD (K j q:Nat)(w:World)(hK:K≤10)(hj:j≤K)(hq:q<2 ^ (K - j)):
  Calls Tryz.prog 48 #[.int .i64 ((nd j q:Nat):Int),.int .i64 ((2 ^ K:Nat):Int)] w fun e w'=>(∃ v,e=.returned (.tuple #[v,.int .i64 0])∧ON 3 w' w.heap.size v (aag K j q))∧Kp w w':=by
 have S:=adM;have hin:=(acY ((nd j q:Nat):Int) ((2 ^ K:Nat):Int)).2 ⟨K,j,q,hK,rfl,rfl,hj,hq⟩;have hb:=abH hK;have hb2:=aaz K;have hn2:-9223372036854775808≤((2 ^ K:Nat):Int)∧((2 ^ K:Nat):Int)≤9223372036854775807:=by omega
 have HN:=Lib.hid (acw ((nd j q:Nat):Int) ((2 ^ K:Nat):Int) w hn2);rw[hin] at HN;obtain ⟨w1,w2,w3⟩:=way hK hj hq;have HT:=Lib.hid (ahO K j q);have HL:=Lib.hid (aca K j q);have HP:Hid (∀ i W,i<K - j→Calls Tryz.prog 80 #[.int .i64 ((nd (j+i) (q / 2 ^ i):Nat):Int),.int .i64 ((2 ^ K:Nat):Int)] W fun e w'=>e=.returned (.tuple #[.int .i64 ((nd (j+(i+1)) (q / 2 ^ (i+1)):Nat):Int),.int .i64 0])∧W=w'):=fun i W hi=>by
  have:=adu ((nd (j+i) (q / 2 ^ i):Nat):Int) ((2 ^ K:Nat):Int) W hn2;rwa [(w3 i hi).1,(w3 i hi).2.1] at this
 have i1:IntKind.i64.wrap (((2 ^ K:Nat):Int) - 1)=((2 ^ K:Nat):Int) - 1:=IntWalk.i64_in _ (by omega);obtain ⟨f,hf⟩:∃ f:Nat→Nat,f=fun i=>nd (j+i) (q / 2 ^ i):=⟨_,rfl⟩
 have hfi:∀ i,nd (j+i) (q / 2 ^ i)=f i:=fun i=>by rw[hf]
 have hf0:nd j q=f 0:=by rw[hf];simp
 have HT2:Hid (∀ i,i<K - j→(aag K j q).take (i+1)=(aag K j q).take i++[f (i+1)]):=fun i hi=>by
  rw[HT.out i hi];rw[hf];simp only[];congr 3;omega
 have HE:Hid ((aag K j q).take (K - j)=aag K j q):=by unfold Hid;rw[List.take_of_length_le (by rw[HL.out];omega)]
 generalize aag K j q=PL at *;simp only[hfi] at *;rw[hf0] at HN ⊢;have W1:=Lib.hid w1;have W2:=Lib.hid w2;have hdk:K - j≤10:=by omega
 have HJ:Hid (∀ i,i≤K - j→lev (f i)=j+i):=fun i hi=>(w1 i hi).2.2
 generalize ((2 ^ K:Nat):Int)=N at *;clear hin hb hb2 hn2 w1 w2 w3 HT hf hfi hf0 hq;go_enter Tryz.func48,Tryz.ntmps48;go_wp2_with fail;refine HN.out.mono ?_;rintro _ _ ⟨rfl,rfl⟩;clear HN;go_wp2_with fail;go_loopw[0,7] (fun x v wr=>∃ i:Nat,i≤K - j∧x=.int .i64 ((f i:Nat):Int)∧ON 3 wr w.heap.size v (PL.take i)∧Kp w wr) (fun x _ _=>(20 - lev (intOf x).toNat))
 case atStart=>exact ⟨0,Nat.zero_le _,rfl,ON.nil _ _ _,Kp.refl _⟩
 case round=>
  obtain ⟨i,hi,rfl,ho,hk⟩:=hrel;have hroot:=W2.out i hi;obtain ⟨b1,b2,b3⟩:=W1.out i hi;by_cases hlt:i<K - j
  ·have hne:¬((f i:Nat):Int)=N - 1:=fun h=>by have:=hroot.1 h;omega
   have hbf:(((f i:Nat):Int)==N - 1)=false:=beq_eq_false_iff_ne.2 hne;have HP1:=Lib.hid (HP.out i wr hlt);have HTI:=Lib.hid (HT2.out i hlt);have HLV:=Lib.hid (And.intro (HJ.out i hi) (HJ.out (i+1) (by omega)));have hsz:=hk.size;have HLN:Hid ((PL.take i).length≤1000000):=by unfold Hid;rw[List.length_take,HL.out];omega
   generalize PL.take i=L at *;clear W1 W2 HP HT2 HE HJ hroot b1 b2 b3;go_wp2_with fail;refine HP1.out.mono ?_;rintro _ _ ⟨rfl,rfl⟩;go_wp2_with (at_builtin;refine acy (o:=⟨some 28,_,_,_,_,_⟩) S rfl _ _ rfl w.heap.size _ L rfl (ho.kp ((Kp.refl wr).alloc _)) _ _ rfl (ON.lit1 wr 3 (f (i+1))) HLN.out (by simp;omega) ?_;intro v4 w4 o4 g4;have k4:Kp w w4:=Kp.grown (hk.alloc _) g4 ho.own_ge)
   go_roundw
   case rel=>exact ⟨i+1,by omega,rfl,by rw[HTI.out];exact o4,k4⟩
   case measure=>have:=HLV.out;simp[intOf];omega
  ·obtain rfl:i=K - j:=by omega
   have heq:((f (K - j):Nat):Int)=N - 1:=hroot.2 rfl;rw[HE.out] at ho;have R:=Lib.hid ho;obtain ⟨av,nv,cv,rfl⟩:=ho.rn.sl;have KK:=Lib.hid hk;clear W1 W2 HP HT2 HE HJ hroot b1 b2 b3 ho hk;go_wp2_with fail;go_ret2;exact ⟨⟨_,rfl,R.out⟩,KK.out⟩
theorem akL (x n:Int)(w:World)(hn2:-9223372036854775808≤n∧n≤9223372036854775807):
  Calls Tryz.prog 48 #[.int .i64 x,.int .i64 n] w fun e w'=>(∃ v,e=.returned (.tuple #[v,.int .i64 (arE x n)])∧ON 3 w' w.heap.size v (am9 x n))∧Kp w w':=by
 by_cases h:inB x n=true
 ·obtain ⟨K,j,q,hK,rfl,rfl,hj,hq⟩:=(acY x n).1 h
  obtain ⟨e1,e2,e3⟩:=ap1 hK hj hq;rw[e1,e2];exact aeD K j q w hK hj hq
 ·obtain ⟨e1,e2,e3⟩:=ar_no h
  have h2:inB x n=false:=by rw[Bool.eq_false_iff];exact h
  have HN:=Lib.hid (acw x n w hn2);rw[h2] at HN;rw[e1,e2];clear h h2 e1 e2 e3 hn2;go_enter Tryz.func48,Tryz.ntmps48;go_wp2_with fail;refine HN.out.mono ?_;rintro _ _ ⟨rfl,rfl⟩;go_wp2_with fail;go_ret2;exact ⟨⟨_,rfl,ON.nil _ _ _⟩,Kp.refl _⟩
theorem aiF (K j q:Nat)(w:World)(hK:K≤10)(hj:j≤K)(hq:q<2 ^ (K - j)):
  Calls Tryz.prog 91 #[.int .i64 ((nd j q:Nat):Int),.int .i64 ((2 ^ K:Nat):Int)] w fun e w'=>(∃ v,e=.returned (.tuple #[v,.int .i64 0])∧RN w' v (aaF K j q))∧Kp w w':=by
 have S:=adM;have hin:=(acY ((nd j q:Nat):Int) ((2 ^ K:Nat):Int)).2 ⟨K,j,q,hK,rfl,rfl,hj,hq⟩;have hb:=abH hK;have hb2:=aaz K;have hn2:-9223372036854775808≤((2 ^ K:Nat):Int)∧((2 ^ K:Nat):Int)≤9223372036854775807:=by omega
 have HN:=Lib.hid (acw ((nd j q:Nat):Int) ((2 ^ K:Nat):Int) w hn2);rw[hin] at HN;obtain ⟨w1,w2,w3⟩:=way hK hj hq;have HT:=Lib.hid (afF K j q);have HL:=Lib.hid (ab5 K j q);have HP:Hid (∀ i W,i<K - j→Calls Tryz.prog 80 #[.int .i64 ((nd (j+i) (q / 2 ^ i):Nat):Int),.int .i64 ((2 ^ K:Nat):Int)] W fun e w'=>e=.returned (.tuple #[.int .i64 ((nd (j+(i+1)) (q / 2 ^ (i+1)):Nat):Int),.int .i64 0])∧W=w'):=fun i W hi=>by
  have:=adu ((nd (j+i) (q / 2 ^ i):Nat):Int) ((2 ^ K:Nat):Int) W hn2;rwa [(w3 i hi).1,(w3 i hi).2.1] at this
 have HS:Hid (∀ i W,i<K - j→Calls Tryz.prog 130 #[.int .i64 ((nd (j+i) (q / 2 ^ i):Nat):Int),.int .i64 ((2 ^ K:Nat):Int)] W fun e w'=>e=.returned (.tuple #[.int .i64 ((nd (j+i) (sq (q / 2 ^ i)):Nat):Int),.int .i64 0])∧W=w'):=fun i W hi=>by
  have:=ahu ((nd (j+i) (q / 2 ^ i):Nat):Int) ((2 ^ K:Nat):Int) W hn2;rwa [(w3 i hi).1,(w3 i hi).2.2] at this
 have i1:IntKind.i64.wrap (((2 ^ K:Nat):Int) - 1)=((2 ^ K:Nat):Int) - 1:=IntWalk.i64_in _ (by omega);obtain ⟨f,hf⟩:∃ f:Nat→Nat,f=fun i=>nd (j+i) (q / 2 ^ i):=⟨_,rfl⟩
 have hfi:∀ i,nd (j+i) (q / 2 ^ i)=f i:=fun i=>by rw[hf]
 obtain ⟨g,hg⟩:∃ g:Nat→Nat,g=fun i=>nd (j+i) (sq (q / 2 ^ i)):=⟨_,rfl⟩
 have hgi:∀ i,nd (j+i) (sq (q / 2 ^ i))=g i:=fun i=>by rw[hg]
 have hf0:nd j q=f 0:=by rw[hf];simp
 have HT2:Hid (∀ i,i<K - j→(aaF K j q).take (i+1)=(aaF K j q).take i++[g i]):=fun i hi=>by
  rw[HT.out i hi];rw[hg]
 have HE:Hid ((aaF K j q).take (K - j)=aaF K j q):=by unfold Hid;rw[List.take_of_length_le (by rw[HL.out];omega)]
 generalize aaF K j q=PL at *;simp only[hfi,hgi] at *;rw[hf0] at HN ⊢;have W1:=Lib.hid w1;have W2:=Lib.hid w2;have hdk:K - j≤10:=by omega
 have HJ:Hid (∀ i,i≤K - j→lev (f i)=j+i):=fun i hi=>(w1 i hi).2.2
 generalize ((2 ^ K:Nat):Int)=N at *;clear hin hb hb2 hn2 w1 w2 w3 HT hf hfi hg hgi hf0 hq;go_enter Tryz.func91,Tryz.ntmps91;go_wp2_with fail;refine HN.out.mono ?_;rintro _ _ ⟨rfl,rfl⟩;clear HN;go_wp2_with fail;go_loopw[0,7] (fun x v wr=>∃ i:Nat,i≤K - j∧x=.int .i64 ((f i:Nat):Int)∧ON 3 wr w.heap.size v (PL.take i)∧Kp w wr) (fun x _ _=>(20 - lev (intOf x).toNat))
 case atStart=>exact ⟨0,Nat.zero_le _,rfl,ON.nil _ _ _,Kp.refl _⟩
 case round=>
  obtain ⟨i,hi,rfl,ho,hk⟩:=hrel;have hroot:=W2.out i hi;obtain ⟨b1,b2,b3⟩:=W1.out i hi;by_cases hlt:i<K - j
  ·have hne:¬((f i:Nat):Int)=N - 1:=fun h=>by have:=hroot.1 h;omega
   have hbf:(((f i:Nat):Int)==N - 1)=false:=beq_eq_false_iff_ne.2 hne;have HP1:=Lib.hid (HP.out i wr hlt);have HS1:=Lib.hid (HS.out i wr hlt);have HTI:=Lib.hid (HT2.out i hlt);have HLV:=Lib.hid (And.intro (HJ.out i hi) (HJ.out (i+1) (by omega)));have hsz:=hk.size;have HLN:Hid ((PL.take i).length≤1000000):=by unfold Hid;rw[List.length_take,HL.out];omega
   generalize PL.take i=L at *;clear W1 W2 HP HS HT2 HE HJ hroot b1 b2 b3;go_wp2_with fail;refine HS1.out.mono ?_;rintro _ _ ⟨rfl,rfl⟩;go_wp2_with fail;refine HP1.out.mono ?_;rintro _ _ ⟨rfl,rfl⟩;go_wp2_with (at_builtin;refine acy (o:=⟨some 36,_,_,_,_,_⟩) S rfl _ _ rfl w.heap.size _ L rfl (ho.kp ((Kp.refl wr).alloc _)) _ _ rfl (ON.lit1 wr 3 (g i)) HLN.out (by simp;omega) ?_;intro v4 w4 o4 g4;have k4:Kp w w4:=Kp.grown (hk.alloc _) g4 ho.own_ge)
   go_roundw
   case rel=>exact ⟨i+1,by omega,rfl,by rw[HTI.out];exact o4,k4⟩
   case measure=>have:=HLV.out;simp[intOf];omega
  ·obtain rfl:i=K - j:=by omega
   have heq:((f (K - j):Nat):Int)=N - 1:=hroot.2 rfl;rw[HE.out] at ho;have R:=Lib.hid ho.rn;obtain ⟨av,nv,cv,rfl⟩:=ho.rn.sl;have KK:=Lib.hid hk;clear W1 W2 HP HS HT2 HE HJ hroot b1 b2 b3 ho hk;go_wp2_with fail;go_ret2;exact ⟨⟨_,rfl,R.out⟩,KK.out⟩
attribute [local go_sem] Oper.semAt_some
theorem akd (a:Option Addr)(n c:Nat)(w:World):
  Calls Tryz.prog 144 #[.slice a n c] w fun e w'=>e=.returned (.func (.func 175) #[] #[.pointer (some ⟨w.heap.size,0,none⟩)])∧w.alloc (.cells #[.slice a n c] 34)=w':=by
 go_enter Tryz.func144,Tryz.ntmps144;go_wp2;go_ret;exact ⟨rfl,rfl⟩
theorem ahH (PL:List Nat)(N:Nat)(a:Option Addr)(c b1 gB off:Nat)(w:World)(hN:N≤100000)(h1:w.cell? ⟨b1,0,none⟩=some (.slice a N c))
  (hc:0<N→a=some ⟨gB,off,none⟩∧∀ i,i<N→w.cell? ⟨gB,off+i,none⟩=some (.int .i64 ((PL.getD i 0:Nat):Int))):
  alK Tryz.prog 175 #[.pointer (some ⟨b1,0,none⟩)] (fun i v _ _=>v=#[.int .i64 (((N - 1 - i:Nat)):Int),.int .i64 ((PL.getD (N - 1 - i) 0:Nat):Int)]) N (fun k=>k=b1∨k=gB) w:=by
 intro l J Jx W hh hl1 hl2 hJ hJx hY h0;have c1:=hh.cell h1 (.inl rfl);have HC1:=Lib.hid h1;have HJ:=Lib.hid hJ;have HY:=Lib.hid hY;have HC:=Lib.hid hc;have HH:=Lib.hid hh;have i0:IntKind.i64.wrap ((N:Int) - 1)=(N:Int) - 1:=IntWalk.i64_in _ (by omega);clear hJ hY h1 hc hh;refine (callsIn_wide (n:=5)).1 ?_;refine callsIn_of_wp Tryz.func175 rfl trivial ?_ rfl;simp only[Tryz.ntmps175,List.append_toArray,List.append_nil,List.size_toArray,List.length_cons,List.length_nil,Nat.reduceAdd,Nat.reduceSub,Array.replicate_succ,Array.replicate_zero,List.push_toArray,List.nil_append,List.cons_append];gi_wp2
 gi_loopw [3] (fun p wr=>∃ (i:Nat) (Y:Nat→Prop),i≤N∧p=.int .i64 ((N:Int) - 1 - (i:Int))∧Held (fun k=>k=b1∨k=gB) w wr∧J i Y wr∧(∀ k,Y k→W.heap.size≤k∧k<wr.heap.size)∧W.heap.size≤wr.heap.size) (fun p _=>(intOf p+1).toNat)
 case atStart=>exact ⟨0,_,by omega,by simp,HH.out,h0,fun _ h=>h.elim,Nat.le_refl _⟩
 case round=>
  clear c1 h0;obtain ⟨i,Y,hi,rfl,hhw,hjy,hyb,hsz⟩:=hrel;have hmx:Tryz.prog.follows .mixedOrders=true:=by kernel_rfl
  have hls:Tryz.prog.follows .lateStores=true:=by kernel_rfl
  have c1:=hhw.cell HC1.out (.inl rfl);by_cases hlt:i<N
  ·obtain ⟨M,hM⟩:∃ M,N - 1 - i=M:=⟨_,rfl⟩
   have hMi:(N:Int) - 1 - (i:Int)=(M:Int):=by omega
   obtain ⟨rfl,hcc⟩:=HC.out (by omega);have c2:=hhw.cell (hcc M (by omega)) (.inr rfl);have i2:(M:Int)<(N:Int):=by omega
   have i1:IntKind.i64.wrap ((M:Int) - 1)=(M:Int) - 1:=IntWalk.i64_in _ (by omega);have hTT:(#[.int .i64 (M:Int),.int .i64 ((PL.getD M 0:Nat):Int)]:Array Value)=#[.int .i64 (((N - 1 - i:Nat)):Int),.int .i64 ((PL.getD (N - 1 - i) 0:Nat):Int)]:=by rw[hM]
   obtain ⟨fn,tmps,assign,body,hy,hR⟩:=HY.out i Y wr #[.int .i64 (M:Int),.int .i64 ((PL.getD M 0:Nat):Int)] 4 hlt hjy hyb hhw hTT;have HM:=Lib.hid (And.intro hM (And.intro hlt hMi));have HYB:=Lib.hid (And.intro hyb (And.intro hhw hsz));rw[hMi];generalize ((PL.getD M 0:Nat):Int)=V at *;clear hcc hTT hM hMi hyb hhw hsz hjy hlt hi;gi_wp2
   refine hR.mono ?_;rintro e w2 ⟨hh2,(⟨rfl,hj2⟩ | ⟨rfl,hx2⟩)⟩
   ·have HH3:=Lib.hid (HYB.out.2.1.trans (hh2.mono (fun _ h=>.inr h)))
    have HB3:Hid (∀ k,Y k→W.heap.size≤k∧k<w2.heap.size):=fun k h=>⟨(HYB.out.1 k h).1,Nat.lt_of_lt_of_le (HYB.out.1 k h).2 hh2.size⟩
    have HS3:=Lib.hid (Nat.le_trans HYB.out.2.2 hh2.size);have HJ2:=Lib.hid hj2;clear hy hR hh2 hj2 c1 c2;gi_wp2
    go_roundw
    case rel=>exact ⟨i+1,Y,HM.out.2.1,by have:=HM.out;congr 1 <;> omega,HH3.out,HJ2.out,HB3.out,HS3.out⟩
    case measure=>have:=HM.out;simp[intOf] <;> omega
   ·have HB3:Hid (∀ k,Y k→W.heap.size≤k∧k<w2.heap.size):=fun k h=>⟨(HYB.out.1 k h).1,Nat.lt_of_lt_of_le (HYB.out.1 k h).2 hh2.size⟩
    have HX2:=Lib.hid hx2;clear hy hR hh2 hx2 c1 c2;gi_wp2
    refine bodyPost_ret (results_none rfl _ _ _) rfl ?_;exact ⟨⟨_,rfl⟩,Y,HB3.out,.inr ⟨i,HM.out.2.1,HX2.out⟩⟩
  ·obtain rfl:i=N:=by omega
   have hneg:¬(0:Int)≤(i:Int) - 1 - (i:Int):=by omega
   have e:(i:Int) - 1 - (i:Int) = -1:=by omega
   have HJY:=Lib.hid (And.intro hyb hjy);rw[e];clear hyb hjy hhw hsz hneg e;gi_wp2
   refine bodyPost_end (results_none rfl _ _ _) rfl ?_;exact ⟨⟨_,rfl⟩,Y,HJY.out.1,.inl HJY.out.2⟩
end Go.Proofs.YthmhklmkgkfcpaaGreatDoor
