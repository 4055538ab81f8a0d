import Derived.Test.YtbhkdlpdolioaaaP3
import Derived.Test.YtbhkdlpdolioaaaP34
set_option linter.unusedVariables false
set_option linter.unusedSimpArgs false
set_option maxHeartbeats 8000000
set_option maxRecDepth 100000
namespace Go.Proofs.Ytbhkdlpdolioaaa
open Go.RowKit
def abj (ls:List (List UInt8)):Bool:=decide (∀ i,i<ls.length→(ls.getD i []).length=32)
theorem aaO (v:Value)(ls:List (List UInt8))(w:World)(h:RL w v ls):
  Calls Try.prog 36 #[v] w fun e w'=>e=.returned (.bool (abj ls))∧w'=w:=by
 obtain ⟨a,c,rfl,h1,h2⟩:=h.shape;unfold maxLen at h2;go_enter Try.func36,Try.ntmps36;go_wp2_with fail;go_loopw[7] (fun i wr=>(∃ k:Nat,k≤ls.length∧i=.int .i64 k∧Hid (∀ j,j<k→(ls.getD j []).length=32))∧wr=w) (fun i _=>ls.length - (intOf i).toNat)
 case atStart=>exact ⟨⟨0,by omega,rfl,fun j hj=>by omega⟩,rfl⟩
 case round=>
  obtain ⟨⟨k,hk,rfl,hj⟩,rfl⟩:=hrel;by_cases hlt:k<ls.length
  ·obtain ⟨b,off,rfl,_,hcell⟩:=h.at k hlt
   obtain ⟨af9,hcu,hru⟩:=hcell k hlt;obtain ⟨au,cu,rfl,p1,p2⟩:=hru.shape;by_cases h3:(ls.getD k []).length=32
   ·have HJ:Hid (∀ j,j<k+1→(ls.getD j []).length=32):=fun j hq=>by
     rcases Nat.lt_or_ge j k with h4 | h4
     ·exact hj.out j h4
     ·obtain rfl:j=k:=by omega
      exact h3
    rw[h3] at hcu p1;generalize ls.getD k []=X at *;clear hcell hru h3;go_wp2_with fail;go_roundw
    case rel=>exact ⟨⟨k+1,by omega,by go_num,HJ⟩,trivial⟩
    case measure=>simp[intOf];omega
   ·have hb:abj ls=false:=decide_eq_false fun hh=>h3 (hh k hlt)
    have h4:¬((ls.getD k []).length:Int)=32:=by omega
    generalize ls.getD k []=X at *;clear hcell hru h3;go_wp2_with fail;go_ret;exact ⟨by rw[hb];rfl,rfl⟩
  ·obtain rfl:k=ls.length:=by omega
   have hb:abj ls=true:=decide_eq_true hj.out;go_wp2_with fail;go_ret;exact ⟨by rw[hb];rfl,rfl⟩
def Prt (w:World)(r:Option Nat)(af9:Value)(l:List UInt8):Prop:=Rd w af9 l∧∀ b o n c,af9=.slice (some ⟨b,o,none⟩) n c→l=[]∨(b<w.heap.size∧r≠some b)
theorem Rd.prt {w:World}{r:Option Nat}{af9:Value}{l:List UInt8}(h:Rd w af9 l)(hr:∀ g,r=some g→w.heap.size≤g):Prt w r af9 l:=by
 refine ⟨h,fun b o n c e=>?_⟩;subst e;by_cases hl:l=[]
 ·exact .inl hl
 ·have hn:=(h.len).1
  have:0<n:=by rw[hn];exact List.length_pos_iff.2 hl
  obtain ⟨b',off,e,hb,_⟩:=h.at 0 this;cases e;exact .inr ⟨hb,fun e=>by have:=hr _ e;omega⟩
theorem Prt.kp {w w':World}{r:Option Nat}{af9:Value}{l:List UInt8}(h:Prt w r af9 l)(k:Kp w w'):Prt w' r af9 l:=
 ⟨h.1.kp k,fun b o n c e=>(h.2 b o n c e).imp id fun h=>⟨Nat.lt_of_lt_of_le h.1 k.size,h.2⟩⟩
theorem Ow.prt {e:TypeId}{w:World}{B:Nat}{r:Option Nat}{af9:Value}{l:List UInt8}(h:Ow e w B af9 l)(hr:∀ g,r=some g→g<B):Prt w r af9 l:=by
 refine ⟨h.rd,fun b o n c e=>.inr ?_⟩;subst e;have:=World.ownsRow.lt h b (by simp[Value.ownBlock]);exact ⟨this.2,fun e=>by have:=hr _ e;omega⟩
theorem Prt.grown {w w':World}{r r':Option Nat}{af9:Value}{l:List UInt8}(h:Prt w r af9 l)(hg:w.grownBy w' r)(hr:r'=r∨r'=some w.heap.size):Prt w' r' af9 l:=by
 have hsz:=hg.size;by_cases hl:l=[]
 ·subst hl
  obtain ⟨a,c,rfl,h1,h2,h3,_⟩:=h.1;exact ⟨⟨a,c,rfl,h1,h2,h3,fun x hx i hi=>by simp at hi⟩,fun _ _ _ _ _=>.inl rfl⟩
 ·refine ⟨h.1.held (R:=fun b=>r≠some b) ⟨hsz,fun k hk hR=>hg.block k hk fun e=>hR e.symm⟩ fun b o n c e=>((h.2 b o n c e).resolve_left hl).2,fun b o n c e=>.inr ?_⟩
  obtain ⟨h1,h2⟩:=(h.2 b o n c e).resolve_left hl;refine ⟨by omega,fun e2=>?_⟩;rcases hr with hr | hr
  ·exact h2 (hr▸e2)
  ·rw[hr] at e2
   cases e2;omega
def PO (e:TypeId)(w:World)(B:Nat)(v:Value)(ls:List (List UInt8)):Prop:=
 ∃ us,w.ownsRow B e 1 v us.length us∧us.length=ls.length∧∀ i,i<ls.length→Prt w v.ownBlock (us.getD i (.bool false)) (ls.getD i [])
theorem PO.nil (e:TypeId)(w:World)(B:Nat):PO e w B (.slice none 0 0) []:=⟨[],World.ownsRow_nil _ _ _ _,rfl,fun i hi=>by simp at hi⟩
theorem PO.kp {e:TypeId}{w w':World}{B:Nat}{v:Value}{ls:List (List UInt8)}(h:PO e w B v ls)(k:Kp w w'):PO e w' B v ls:=by
 obtain ⟨us,h1,h2,h3⟩:=h;exact ⟨us,aef h1 k,h2,fun i hi=>(h3 i hi).kp k⟩
theorem PO.rl {e:TypeId}{w:World}{B:Nat}{v:Value}{ls:List (List UInt8)}(h:PO e w B v ls):RL w v ls:=by
 obtain ⟨us,h1,h2,h3⟩:=h;exact ⟨us,Vals.own h1,h2,fun i hi=>(h3 i hi).1⟩
theorem PO.lt {e:TypeId}{w:World}{B:Nat}{v:Value}{ls:List (List UInt8)}(h:PO e w B v ls):∀ k,v.ownBlock=some k→B≤k∧k<w.heap.size:=by
 obtain ⟨us,h1,_,_⟩:=h;exact fun k hk=>World.ownsRow.lt h1 k hk
theorem adY {α:Type}(l1 l2:List α)(d:α)(i:Nat):(l1++l2).getD i d=if i<l1.length then l1.getD i d else l2.getD (i - l1.length) d:=by
 rw[List.getD_eq_getElem?_getD,List.getElem?_append];split <;> rw[List.getD_eq_getElem?_getD]
theorem ab0 {P:Program}{w:World}{t e:TypeId}(S:af6 P t e){ops:Array Oper}{rest:List Oper}{o:Oper}{a:Act}{Q:Exit→Act→World→Prop}(hgd:o.guard=none)(s x:Operand)
  (ho:o.op=.call { callee:=.builtin .append,args:=#[s,x],argTypes:=#[t,t] })
  (B:Nat) (v:Value) (ls:List (List UInt8)) (hs:a.eval s=v) (hown:PO e w B v ls) (g:Nat) (u1 u2:Value) (l1 l2:List UInt8) (hx:a.eval x=.slice (some ⟨g,0,none⟩) 2 2) (hc1:w.cell? ⟨g,0,none⟩=some u1) (hc2:w.cell? ⟨g,1,none⟩=some u2)
  (hp1:Prt w v.ownBlock u1 l1) (hp2:Prt w v.ownBlock u2 l2) (hlen:ls.length≤1000000) (hbase:B≤w.heap.size)
  (h:∀ v' w',PO e w' B v' (ls++[l1,l2])→w.grownBy w' v.ownBlock→wpList P ops Q rest (a.put o.dst v') w'):wpList P ops Q (o :: rest) a w:=by
 obtain ⟨i,z,hi,hz,hsize,hby,hzc⟩:=S.hi;obtain ⟨us,h1,h2,h3⟩:=hown;refine wpList_append_own_at w hgd s x t ho B e i z 1 i.bytes S.ht hi hz hsize rfl hzc (by decide) v us.length us hs h1 ⟨g,0,none⟩ 2 2 [u1,u2] hx rfl (fun j y hj=>?_) (fun y hy=>?_) (by unfold maxLen;omega) ?_ hbase
  (fun v' w' k1 k2 _ k4=>h v' w' ⟨us++[u1,u2],by rw[List.length_append];exact k1,by simp[h2],fun j hj=>?_⟩ k2)
 ·match j with
  | 0=>cases hj;exact hc1
  | 1=>cases hj;exact hc2
  | j+2=>simp at hj
 ·simp only[List.mem_cons,List.not_mem_nil,or_false] at hy
  rcases hy with rfl | rfl
  ·exact hp1.1.one
  ·exact hp2.1.one
 ·have:=Nat.mul_le_mul (show us.length+2≤1000002 by omega) hby
  omega
 ·rw[adY,adY,h2]
  by_cases hlt:j<ls.length
  ·rw[if_pos hlt,if_pos hlt]
   exact (h3 j hlt).grown k2 k4
  ·rw[if_neg hlt,if_neg hlt]
   have hj2:j<ls.length+2:=by simpa using hj
   rcases (show j=ls.length∨j=ls.length+1 by omega) with rfl | rfl
   ·rw[Nat.sub_self]
    exact hp1.grown k2 k4
   ·rw[Nat.add_sub_cancel_left]
    exact hp2.grown k2 k4
def aaP:List (List UInt8)→List (List UInt8)
 | []=>[]
 | l :: ls=>lenB l.length :: l :: aaP ls
theorem acV (ls:List (List UInt8)):(aaP ls).length=2*ls.length:=by
 induction ls with
 | nil=>rfl
 | cons l ls ih=>simp only[aaP,List.length_cons,ih];omega
theorem aeg (ls ms:List (List UInt8)):aaP (ls++ms)=aaP ls++aaP ms:=by
 induction ls with
 | nil=>rfl
 | cons l ls ih=>simp[aaP,ih]
theorem adr {l:List UInt8}(h:l.length≤1000000):lenE (l.length:Int)=0∧lenB (l.length:Int)++l=rowB l:=by
 have h1:=acI (x:=l) (by omega);have h2:lenE (l.length:Int)=0:=h1.1;refine ⟨h2,?_⟩;rw[h1.2];unfold lenB;rw[if_pos h2];rfl
theorem adF (ls:List (List UInt8))(h:∀ l∈ls,l.length≤1000000):(aaP ls).flatten=(ls.map rowB).flatten:=by
 induction ls with
 | nil=>rfl
 | cons l ls ih=>
  rw[aaP,List.flatten_cons,List.flatten_cons,ih fun x hx=>h x (by simp[hx]),← List.append_assoc,(adr (h l (by simp))).2]
  rfl
theorem abe (v:Value)(ls:List (List UInt8))(w:World)(h:RL w v ls)(hl:∀ l∈ls,l.length≤100000)(hp:0<(ls.map rowB).flatten.length)(hb:(ls.map rowB).flatten.length≤1000000)(hn:ls.length≤1000):
  Calls Try.prog 38 #[v] w fun e w'=>(∃ v,e=.returned (.tuple #[v,.int .i64 0])∧Ow 5 w' w.heap.size v (ls.map rowB).flatten)∧Kp w w':=by
 have S:=aeI;obtain ⟨a,c,rfl,h1,h2⟩:=h.shape;unfold maxLen at h2;have HPL:=Lib.hid acV;have hpf:=adF ls fun l hl'=>by have:=hl l hl';omega
 rw[← hpf] at hp hb ⊢;have HF:=Lib.hid (And.intro hp hb);have HT:Hid (∀ k,k<ls.length→aaP (ls.take (k+1))=aaP (ls.take k)++[lenB ((ls.getD k []).length:Int),ls.getD k []]):=fun k hk=>by
  rw[List.take_succ_eq_append_getElem hk,aeg,List.getD_eq_getElem?_getD,List.getElem?_eq_getElem hk];rfl
 have HA:Hid (aaP (ls.take ls.length)=aaP ls):=by unfold Hid;rw[List.take_length]
 have HL:Hid (∀ k,k<ls.length→(ls.getD k []).length≤100000):=fun k hk=>by
  rw[List.getD_eq_getElem?_getD,List.getElem?_eq_getElem hk];exact hl _ (List.getElem_mem hk)
 clear hpf hp hb hl;go_enter Try.func38,Try.ntmps38;go_wp2_with fail;go_loopw[4,11] (fun p i wr=>∃ k:Nat,k≤ls.length∧i=.int .i64 k∧PO 22 wr w.heap.size p (aaP (ls.take k))∧Kp w wr) (fun _ i _=>ls.length - (intOf i).toNat)
 case atStart=>exact ⟨0,by omega,rfl,PO.nil _ _ _,Kp.refl _⟩
 case round=>
  obtain ⟨k,hk,rfl,ho,hkp⟩:=hrel;have hsz:=hkp.size;by_cases hlt:k<ls.length
  ·obtain ⟨b,off,rfl,_,hcell⟩:=h.at k hlt
   obtain ⟨af9,hcu,hru⟩:=hcell k hlt;have hcu':=hkp.cell hcu;obtain ⟨au,cu,rfl,p1,p2⟩:=hru.shape;have HP:Hid (Prt wr (Value.ownBlock u4) (.slice au (ls.getD k []).length cu) (ls.getD k [])):=(hru.prt fun g hg=>(ho.lt g hg).1).kp hkp;have HLEN:=Lib.hid (acU ((ls.getD k []).length:Int));have hle:=HL.out k hlt;rw[(adr (show (ls.getD k []).length≤1000000 by omega)).1] at HLEN;have HTK:=Lib.hid (HT.out k hlt);have HPN:Hid ((aaP (ls.take k)).length≤1000000):=by unfold Hid;rw[HPL.out,List.length_take];omega
   generalize aaP (ls.take k)=Y at *;generalize ls.getD k []=X at *;unfold maxLen at p2;clear hcell hru hcu HT HL;go_wp2_with (first | (go_at_call 63;refine (HLEN.out _).mono ?_;rintro _ w1 ⟨v1,rfl,o1,k1⟩;obtain ⟨a1,n1,c1,rfl⟩:=o1.rd.sl;have q1:Prt w1 (Value.ownBlock u4) (.slice a1 n1 c1) (lenB (X.length:Int)):=(o1.prt fun g hg=>(ho.lt g hg).2);have q2:=HP.out.kp k1;have ho1:=ho.kp k1;have hs1:=k1.size) |
    (at_builtin;refine ab0 S rfl _ _ rfl w.heap.size _ Y rfl (ho1.kp ((Kp.refl _).alloc _)) _ _ _ (lenB (X.length:Int)) X rfl (by simp) (by simp) (q1.kp ((Kp.refl _).alloc _)) (q2.kp ((Kp.refl _).alloc _)) HPN.out (by simp;omega) ?_;intro v2 w2 o2 g2))
   go_roundw
   case rel=>exact ⟨k+1,by omega,by go_num,by rw[HTK.out];exact o2,Kp.grown ((hkp.trans k1).alloc _) g2 fun k e=>(ho.lt k e).1⟩
   case measure=>simp[intOf];omega
  ·obtain rfl:k=ls.length:=by omega
   rw[HA.out] at ho;have HO:=Lib.hid ho;clear ho;go_wp2_with fail;refine (abc _ (aaP ls) _ HO.out.rl HF.out.1 HF.out.2 (by rw[HPL.out];omega)).mono ?_;rintro e w3 ⟨⟨v3,rfl,o3⟩,k3⟩;go_wp2_with fail;go_ret2;exact ⟨⟨_,rfl,o3.mono hsz⟩,hkp.trans k3⟩
end Go.Proofs.Ytbhkdlpdolioaaa
