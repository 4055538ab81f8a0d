import Derived.Test.YthmhklmkgkfcpaaGreatDoorR9
import Derived.Test.YthmhklmkgkfcpaaGreatDoorR10
import Derived.Test.YthmhklmkgkfcpaaGreatDoorR11
import Derived.Test.YthmhklmkgkfcpaaGreatDoorR17
import Derived.Test.YthmhklmkgkfcpaaGreatDoorR18
import Derived.Deep.RegionHeld3
import Derived.Deep.Fields
set_option linter.unusedVariables false
set_option linter.unusedSimpArgs false
set_option maxHeartbeats 8000000
set_option maxRecDepth 100000
namespace Go.Proofs.YthmhklmkgkfcpaaGreatDoor
open Go.RowKit
def Bx (w:World)(b:Nat)(T:TypeId)(cs:Array Value):Prop:=w.heap[b]?=some (.cells cs T (0,0))
theorem Bx.kp {w w':World}{b:Nat}{T:TypeId}{cs:Array Value}(h:Bx w b T cs)(k:Kp w w'):Bx w' b T cs:=
 (Below.block k b (Array.getElem?_eq_some_iff.1 h).1).trans h
theorem Bx.cell {w:World}{b:Nat}{T:TypeId}{cs:Array Value}(h:Bx w b T cs)(j:Nat):w.cell? ⟨b,j,none⟩=cs[j]?:=cell_of_row w b j cs T (0,0) h
theorem Bx.frozen {w:World}{b:Nat}{T:TypeId}{cs:Array Value}(h:Bx w b T cs)(j:Nat):w.frozen? ⟨b,j,none⟩=false:=frozen_of_row w b j cs T h
theorem Bx.new (w:World)(T:TypeId)(cs:Array Value):Bx (w.alloc (.cells cs T)) w.heap.size T cs:=heap_alloc_new w _
theorem Bx.set {w:World}{b:Nat}{T:TypeId}{cs:Array Value}(h:Bx w b T cs)(j:Nat)(v:Value):Bx (w.setCell ⟨b,j,none⟩ v) b T (cs.setIfInBounds j v):=heap_setCell_same w b j cs T v h
theorem Kp.setNew {w w':World}(h:Kp w w'){b j:Nat}(hb:w.heap.size≤b)(v:Value):Kp w (w'.setCell ⟨b,j,none⟩ v):=Below.setCell h hb v
theorem aac {w:World}{v:Value}{l:List UInt8}(h:Rd w v l):∃ a n c,v=.slice a n c:=by
 obtain ⟨a,c,e,_⟩:=h.shape;exact ⟨_,_,_,e⟩
theorem Bx.setCells {b:Nat}{T:TypeId}:∀ (vs:List Value) (o:Nat) (w:World) (cs:Array Value),Bx w b T cs→o+vs.length≤cs.size →
  ∃ cs':Array Value,Bx (w.setCells b o vs) b T cs'∧cs'.size=cs.size∧∀ k,cs'[k]?=if o≤k∧k<o+vs.length then vs[k - o]? else cs[k]?
 | [],o,w,cs,h,_=>⟨cs,h,rfl,fun k=>by rw[if_neg (by simp only[List.length_nil];omega)]⟩
 | v :: vs,o,w,cs,h,hl=>by
  simp only[List.length_cons] at hl
  obtain ⟨cs',h2,h3,h4⟩:=Bx.setCells vs (o+1) (w.setCell ⟨b,o,none⟩ v) (cs.setIfInBounds o v) (h.set o v) (by rw[Array.size_setIfInBounds];omega)
  refine ⟨cs',h2,by rw[h3,Array.size_setIfInBounds],fun k=>?_⟩
  rw[h4 k]
  simp only[List.length_cons]
  by_cases h5:o+1≤k∧k<o+1+vs.length
  ·rw[if_pos h5,if_pos ⟨by omega,by omega⟩,show k - o=(k - (o+1))+1 by omega,List.getElem?_cons_succ]
  ·rw[if_neg h5,Array.getElem?_setIfInBounds]
   by_cases h6:o=k
   ·subst h6
    rw[if_pos rfl,if_pos (by omega),if_pos ⟨by omega,by omega⟩,Nat.sub_self]
    rfl
   ·rw[if_neg h6,if_neg (by omega)]
theorem Bx.fill {w:World}{b:Nat}{T:TypeId}{cs:Array Value}(h:Bx w b T cs)(vs:Array Value)(hl:vs.size=cs.size):Bx (w.setCells b 0 vs.toList) b T vs:=by
 obtain ⟨cs',h1,h2,h3⟩:=Bx.setCells vs.toList 0 w cs h (by rw[Array.length_toList];omega);have e:cs'=vs:=by
  refine Array.ext_getElem? fun k=>?_
  rw[h3 k,Array.length_toList];split
  ·rw[Nat.sub_zero,Array.getElem?_toList]
  ·next hk=>rw[Array.getElem?_eq_none (by omega),Array.getElem?_eq_none (by omega)]
 exact e▸h1
theorem Bx.there {w:World}{b:Nat}{T:TypeId}{cs:Array Value}(h:Bx w b T cs):w.there b 0 cs.size:=fun j hj=>by
 rw[Nat.zero_add,h.cell j];exact ⟨by simp[hj],h.frozen j⟩
theorem Kp.setCells {w w':World}(h:Kp w w'){b:Nat}(hb:w.heap.size≤b):∀ (vs:List Value) (o:Nat),Kp w (w'.setCells b o vs):=by
 intro vs
 induction vs generalizing w' with
 | nil=>intro o;exact h
 | cons v vs ih=>intro o;exact ih (h.setNew hb v) (o+1)
def TL (l:List UInt8)(at':Int)(w:World)(e:Ending)(w':World):Prop:=
 e=.returned (.tuple #[.int .i64 (tlN l at'),.int .i64 (tlP l at'),.int .i64 (tlE l at')])∧Kp w w'
theorem ah8 (n:Int)(w:World):
  Calls Tryz.prog 150 #[.int .i64 n] w fun e w'=>∃ v,e=.returned (.tuple #[v,.int .i64 (lenE n)])∧Ow 5 w' w.heap.size v (lenB n)∧Kp w w':=by
 by_cases h1:n<0
 ·have d1:decide (n<0)=true:=by simp[h1]
  have e1:lenE n=1:=if_pos (.inl h1);have e2:lenB n=[]:=by simp[lenB,e1]
  rw[e1,e2];clear e1 e2;go_enter Tryz.func150,Tryz.ntmps150;go_wp2_with fail;go_ret2;exact ⟨_,rfl,Ow.nil _ _ _,Kp.refl _⟩
 ·have d1:decide (n<0)=false:=by simp[h1]
  by_cases h2:1073741823<n
  ·have d2:decide (1073741823<n)=true:=by simp[h2]
   have e1:lenE n=1:=if_pos (.inr h2);have e2:lenB n=[]:=by simp[lenB,e1]
   rw[e1,e2];clear e1 e2;go_enter Tryz.func150,Tryz.ntmps150;go_wp2_with fail;go_ret2;exact ⟨_,rfl,Ow.nil _ _ _,Kp.refl _⟩
  ·have d2:decide (1073741823<n)=false:=by simp[h2]
   obtain ⟨n,rfl⟩:=Int.eq_ofNat_of_zero_le (show 0≤n by omega);have e1:lenE n=0:=if_neg (by omega);have e2:lenB n=aau n:=by simp[lenB,e1]
   rw[e1,e2];clear e1 e2;by_cases h3:n<64
   ·have HE:=Lib.hid (show aau n=be 1 n by simp[aau,h3])
    go_enter Tryz.func150,Tryz.ntmps150;go_wp2_with fail;go_ret2;rw[HE.out];exact ⟨_,rfl,Ow.lit w _ _ _ _ _ (Nat.le_refl _) rfl (by omega) (by simp[Lib.byteCells,be];omega),(Kp.refl _).alloc _⟩
   ·by_cases h4:n<16384
    ·have HE:=Lib.hid (show aau n=be 2 (n+16384) by simp[aau,h3,h4])
     go_enter Tryz.func150,Tryz.ntmps150;go_wp2_with fail;go_ret2;rw[HE.out];refine ⟨_,rfl,Ow.lit w _ _ _ _ _ (Nat.le_refl _) rfl (by omega) ?_,(Kp.refl _).alloc _⟩;simp[Lib.byteCells,be];omega
    ·have HE:=Lib.hid (show aau n=be 4 (n+2147483648) by simp[aau,h3,h4])
     have HN:=Lib.hid (adS (n:=(2147483648+n:Int)) (w:=4) ⟨by omega,by omega,by omega,by rw[show (256:Int) ^ (4:Int).toNat=4294967296 from by decide];omega⟩);go_enter Tryz.func150,Tryz.ntmps150;go_wp2_with (go_at_call 62;refine (ah7 _ _ _ (by omega)).mono ?_;rintro e w' ⟨v,rfl,ho,hk⟩;obtain ⟨h1,h2⟩:=HN.out;rw[h1];rw[h2] at ho;clear h1 h2)
     go_ret2;rw[HE.out];refine ⟨_,rfl,?_,hk⟩;rw[show (2147483648+(n:Int)).toNat=n+2147483648 from by omega] at ho;exact ho
theorem abZ (n:Nat):(aau n).length≤4:=by
 unfold aau;split
 ·rw[aak];omega
 ·split <;> (rw[aak];omega)
theorem akG (v:Value)(l:List UInt8)(w:World)(h:Rd w v l):
  Calls Tryz.prog 166 #[v] w fun e w'=>∃ u,e=.returned (.tuple #[u,.int .i64 (rowE l)])∧Ow 5 w' w.heap.size u (rowB l)∧Kp w w':=by
 have U:=ar5;obtain ⟨a,c,rfl,hc,hm⟩:=h.shape;by_cases h1:1073741823<l.length
 ·have e0:lenE l.length=1:=if_pos (.inr (by omega))
  have e1:rowE l=1:=e0;have e2:rowB l=[]:=by simp[rowB,e1]
  rw[e1,e2];have E0:=Lib.hid e0;clear e0 e1 e2;go_enter Tryz.func166,Tryz.ntmps166;go_wp2_with (go_at_call 167;refine (akF _ _).mono ?_;rintro e w1 ⟨u,rfl,ho,hk⟩;rw[E0.out])
  go_ret2;exact ⟨_,rfl,Ow.nil _ _ _,hk⟩
 ·have e0:lenE l.length=0:=if_neg (by omega)
  have e1:rowE l=0:=e0;have e2:rowB l=aau l.length++l:=by simp[rowB,e1]
  have e3:lenB l.length=aau l.length:=by simp[lenB,e0]
  rw[e1,e2];have E0:=Lib.hid e0;have E3:=Lib.hid e3;clear e0 e1 e2 e3;go_enter Tryz.func166,Tryz.ntmps166;go_wp2_with (first
   | (go_at_call 167;refine (akF _ _).mono ?_;rintro e w1 ⟨u,rfl,ho,hk⟩;rw[E0.out];rw[E3.out] at ho)
   | (at_builtin;refine aae U rfl _ _ rfl w.heap.size _ _ rfl ho _ l rfl (h.kp hk) ?c1 hk.size ?_;rotate_right;intro v' w2 ho2 hg _))
  case c1=>have:=abZ l.length;omega
  go_ret2;exact ⟨_,rfl,ho2,Kp.grown hk hg ho.own_ge⟩
theorem ah9 (v:Value)(l:List UInt8)(w:World)(h:Rd w v l):
  Calls Tryz.prog 111 #[v] w fun e w'=>∃ u,e=.returned (.tuple #[u,.int .i64 (rowE l)])∧Ow 5 w' w.heap.size u (rowB l)∧Kp w w':=by
 have U:=ar5;obtain ⟨a,c,rfl,hc,hm⟩:=h.shape;by_cases h1:1073741823<l.length
 ·have e0:lenE l.length=1:=if_pos (.inr (by omega))
  have e1:rowE l=1:=e0;have e2:rowB l=[]:=by simp[rowB,e1]
  rw[e1,e2];have E0:=Lib.hid e0;clear e0 e1 e2;go_enter Tryz.func111,Tryz.ntmps111;go_wp2_with (go_at_call 150;refine (ah8 _ _).mono ?_;rintro e w1 ⟨u,rfl,ho,hk⟩;rw[E0.out])
  go_ret2;exact ⟨_,rfl,Ow.nil _ _ _,hk⟩
 ·have e0:lenE l.length=0:=if_neg (by omega)
  have e1:rowE l=0:=e0;have e2:rowB l=aau l.length++l:=by simp[rowB,e1]
  have e3:lenB l.length=aau l.length:=by simp[lenB,e0]
  rw[e1,e2];have E0:=Lib.hid e0;have E3:=Lib.hid e3;clear e0 e1 e2 e3;go_enter Tryz.func111,Tryz.ntmps111;go_wp2_with (first
   | (go_at_call 150;refine (ah8 _ _).mono ?_;rintro e w1 ⟨u,rfl,ho,hk⟩;rw[E0.out];rw[E3.out] at ho)
   | (at_builtin;refine aae U rfl _ _ rfl w.heap.size _ _ rfl ho _ l rfl (h.kp hk) ?c1 hk.size ?_;rotate_right;intro v' w2 ho2 hg _))
  case c1=>have:=abZ l.length;omega
  go_ret2;exact ⟨_,rfl,ho2,Kp.grown hk hg ho.own_ge⟩
theorem are {n:Int}(h:0≤n∧n≤65535):numB n 2=be 2 n.toNat:=by
 unfold numB;rw[if_pos]
 ·rfl
 ·unfold aef
  refine ⟨by omega,by omega,by omega,?_⟩;show n<65536
  omega
theorem RL.row2 (w:World)(e:TypeId){a b:Value}{la lb:List UInt8}(ha:Rd w a la)(hb:Rd w b lb):RL (w.alloc (.cells #[a,b] e)) (.slice (some ⟨w.heap.size,0,none⟩) 2 2) [la,lb]:=
 RL.cons (us:=[b]) (ls:=[lb]) (World.ownsRow_lit w #[a,b] 2 (Nat.le_refl _) (by unfold maxLen;omega) rfl) (ha.kp ((Kp.refl _).alloc _)) rfl (fun i hi=>by
  match i,hi with
  | 0,_=>exact hb.kp ((Kp.refl _).alloc _))
theorem RL.row3 (w:World)(e:TypeId){a b c:Value}{la lb lc:List UInt8}(ha:Rd w a la)(hb:Rd w b lb)(hc:Rd w c lc):RL (w.alloc (.cells #[a,b,c] e)) (.slice (some ⟨w.heap.size,0,none⟩) 3 3) [la,lb,lc]:=
 RL.cons (us:=[b,c]) (ls:=[lb,lc]) (World.ownsRow_lit w #[a,b,c] 3 (Nat.le_refl _) (by unfold maxLen;omega) rfl) (ha.kp ((Kp.refl _).alloc _)) rfl (fun i hi=>by
  match i,hi with
  | 0,_=>exact hb.kp ((Kp.refl _).alloc _)
  | 1,_=>exact hc.kp ((Kp.refl _).alloc _))
theorem RL.row4 (w:World)(e:TypeId){a b c d:Value}{la lb lc ld:List UInt8}(ha:Rd w a la)(hb:Rd w b lb)(hc:Rd w c lc)(hd:Rd w d ld):RL (w.alloc (.cells #[a,b,c,d] e)) (.slice (some ⟨w.heap.size,0,none⟩) 4 4) [la,lb,lc,ld]:=
 RL.cons (us:=[b,c,d]) (ls:=[lb,lc,ld]) (World.ownsRow_lit w #[a,b,c,d] 4 (Nat.le_refl _) (by unfold maxLen;omega) rfl) (ha.kp ((Kp.refl _).alloc _)) rfl (fun i hi=>by
  match i,hi with
  | 0,_=>exact hb.kp ((Kp.refl _).alloc _)
  | 1,_=>exact hc.kp ((Kp.refl _).alloc _)
  | 2,_=>exact hd.kp ((Kp.refl _).alloc _))
theorem aay {w:World}{v:Value}{l:List UInt8}(h:Rd w v l):∃ a n c,v=.slice a n c:=by
 obtain ⟨a,c,e,_⟩:=h.shape;exact ⟨_,_,_,e⟩
theorem acb (n k:Int)(w:World)(hn:-9223372036854775808≤n∧n≤9223372036854775807):
  Calls Tryz.prog 209 #[.int .i64 n,.int .i64 k] w fun e w'=>(∃ r,e=.returned r∧Ow 5 w' w.heap.size r (numB n k))∧Kp w w':=by
 have HN:=Lib.hid (aet n k w hn);clear hn;go_enter Tryz.func209,Tryz.ntmps209;go_wp2_with fail;refine HN.out.mono ?_;rintro _ w1 ⟨r,rfl,o1,k1⟩;obtain ⟨a1,n1,c1,rfl⟩:=aay o1.rd;clear HN;go_wp2_with fail;go_ret;exact ⟨⟨_,rfl,o1⟩,k1⟩
theorem abs (v:Value)(l:List UInt8)(w:World)(h:Rd w v l):
  Calls Tryz.prog 180 #[v] w fun e w'=>(∃ r,e=.returned r∧Ow 5 w' w.heap.size r (rowB l))∧Kp w w':=by
 have HR:=Lib.hid (akG v l w h);obtain ⟨a,c,rfl,_,_⟩:=h.shape;clear h;go_enter Tryz.func180,Tryz.ntmps180;go_wp2_with fail;refine HR.out.mono ?_;rintro _ w1 ⟨r,rfl,o1,k1⟩;obtain ⟨a1,n1,c1,rfl⟩:=aay o1.rd;clear HR;go_wp2_with fail;go_ret;exact ⟨⟨_,rfl,o1⟩,k1⟩
theorem ahH (v:Value)(un:List Int)(w:World)(hv:RI w v un)(hun:∀ i∈un,0≤i∧i≤65535)(hul:un.length≤100):
  Calls Tryz.prog 244 #[v] w fun e w'=>(∃ r,e=.returned r∧Ow 5 w' w.heap.size r (unB un))∧Kp w w':=by
 have U:=ar5;have HV:=Lib.hid hv;obtain ⟨a,c,rfl,_,_⟩:=hv.shape;obtain ⟨UL,hUL⟩:∃ UL,un.length=UL:=⟨_,rfl⟩;rw[hUL] at HV hul ⊢;have HT:Hid (∀ (i:Nat) W,i<UL→Calls Tryz.prog 209 #[.int .i64 (un.getD i 0),.int .i64 2] W fun e w'=>(∃ r,e=.returned r∧Ow 5 w' W.heap.size r (be 2 (un.getD i 0).toNat))∧Kp W w'):=fun i W hi=>by
  have hm:un.getD i 0∈un:=by rw[List.getD_eq_getElem?_getD,List.getElem?_eq_getElem (by omega)];exact List.getElem_mem _
  obtain ⟨h0,h1⟩:=hun _ hm;rw[← are ⟨h0,h1⟩];exact acb _ _ W (by omega)
 have HTK:Hid (∀ i,i<UL→unB (un.take (i+1))=unB (un.take i)++be 2 (un.getD i 0).toNat):=fun i hi=>by
  rw[← apc];congr 1
  rw[List.take_add_one,List.getD_eq_getElem?_getD,List.getElem?_eq_getElem (by omega)];rfl
 have HTE:Hid (un.take UL=un):=by unfold Hid;rw[← hUL];exact List.take_length
 have HUL:Hid (∀ i,(unB (un.take i)).length≤200):=fun i=>by rw[afo,List.length_take];omega
 clear hUL hun hv;go_enter Tryz.func244,Tryz.ntmps244;go_wp2_with fail;go_loopw[3,8] (fun v x wr=>∃ i:Nat,i≤UL∧x=.int .i64 (i:Int)∧Ow 5 wr w.heap.size v (unB (un.take i))∧Kp w wr) (fun _ x _=>(UL - (intOf x).toNat))
 case atStart=>exact ⟨0,Nat.zero_le _,rfl,by rw[List.take_zero];exact Ow.nil _ _ _,Kp.refl _⟩
 case round=>
  obtain ⟨i,hi,rfl,ho,hkp⟩:=hrel;by_cases hlt:i<UL
  ·obtain ⟨gu,ou,rfl,_,hcu⟩:=(HV.out.kp hkp).at i hlt
   have cu2:=hcu i hlt;have i1:IntKind.i64.wrap ((i:Int)+1)=(i:Int)+1:=IntWalk.i64_in _ (by omega);have i3:(i:Int)<(UL:Int):=by omega
   have HTi:=Lib.hid (HT.out i wr hlt);have HTK1:=Lib.hid (HTK.out i hlt);have KR:=Lib.hid hkp;have HO:=Lib.hid ho;have hle:=HUL.out i;generalize un.getD i 0=X at *;obtain ⟨UB,hUB⟩:∃ UB,unB (un.take i)=UB:=⟨_,rfl⟩;rw[hUB] at HO HTK1 hle;clear hcu hkp ho HT HTK hUB HUL HTE HV;go_wp2_with fail;refine HTi.out.mono ?_;rintro _ w8 ⟨⟨r8,rfl,o8⟩,k8⟩;go_wp2_with (at_builtin;refine aae U rfl _ _ rfl w.heap.size _ UB rfl (HO.out.kp k8) _ _ rfl o8.rd (by rw[aak];omega) (KR.out.trans k8).size ?_;intro v9 w9 o9 g9 _;have K9:=Lib.hid (Kp.grown (KR.out.trans k8) g9 HO.out.own_ge))
   go_roundw
   case rel=>exact ⟨i+1,by omega,by go_num,by rw[HTK1.out];exact o9,K9.out⟩
   case measure=>simp[intOf];omega
  ·obtain rfl:i=UL:=by omega
   rw[HTE.out] at ho;have hle:¬(i:Int)<(i:Int):=by omega
   obtain ⟨av,nv,cv,rfl⟩:=aay ho.rd;have HO:=Lib.hid (And.intro ho hkp);clear hkp ho HT HTK HUL HTE HV;go_wp2_with fail;go_ret;exact ⟨⟨_,rfl,HO.out.1⟩,HO.out.2⟩
theorem aeE (x:UInt8)(v:Value)(ls:List (List UInt8))(w:World)(h:RL w v ls)(hp:0<ls.flatten.length)(hb:ls.flatten.length≤1900)(hn:ls.length≤1000):
  Calls Tryz.prog 179 #[.int .u8 (x.toNat:Int),v] w fun e w'=>(∃ r,e=.returned r∧Ow 5 w' w.heap.size r (aaK ([x]++ls.flatten)))∧Kp w w':=by
 have U:=ar5;have HC:=Lib.hid (fun W (hW:Kp w W)=>abY v ls W (h.kp hW) hp (by omega) (by omega));obtain ⟨a,c,rfl,_,_⟩:=h.shape;have HL:=Lib.hid (Ow.lit w 5 w.heap.size 1 #[.int .u8 (x.toNat:Int)] [x] (Nat.le_refl _) rfl (by omega) rfl);have HB:=Lib.hid (And.intro hp hb);clear h hp hb hn;go_enter Tryz.func179,Tryz.ntmps179;go_wp2_with fail;refine (HC.out _ ((Kp.refl _).alloc _)).mono ?_;rintro _ w1 ⟨⟨r1,rfl,o1⟩,k1⟩;have K1:=Lib.hid (((Kp.refl w).alloc (.cells #[.int .u8 (x.toNat:Int)] 5)).trans k1);have HL1:=Lib.hid (HL.out.kp k1);clear k1 HL HC;go_wp2_with (at_builtin;refine aae U rfl _ _ rfl w.heap.size _ [x] rfl HL1.out _ _ rfl o1.rd (by have:=HB.out;simp only[List.length_cons,List.length_nil];omega) K1.out.size ?_;intro v2 w2 o2 g2 _;have K2:=Lib.hid (Kp.grown K1.out g2 HL1.out.own_ge))
 refine (anQ v2 ([x]++ls.flatten) w2 o2.rd (by have:=HB.out;simp only[List.length_append,List.length_cons,List.length_nil];omega)).mono ?_;rintro _ w3 ⟨⟨a3,c3,rfl,o3⟩,k3⟩;have KE:=Lib.hid (And.intro o3 (K2.out.trans k3));clear o3 k3 o2 g2 HL1 o1;go_wp2_with fail;go_ret;exact ⟨⟨_,rfl,KE.out.1.mono K2.out.size⟩,KE.out.2⟩
theorem afZ (v:Value)(n:Nod)(w:World)(hv:NV w v n)(hn:ado n):
  Calls Tryz.prog 207 #[v] w fun e w'=>(∃ r,e=.returned r∧Ow 5 w' w.heap.size r (adn n))∧Kp w w':=by
 obtain ⟨p,ar6,h,rfl,ip,iu,ih⟩:=hv;have hnl:=(aeM hn).1;obtain ⟨kk,nm,pub,un,hash⟩:=n;obtain ⟨hk,hnm,hpub,hhash,hunl,hun⟩:=hn;simp only at hk hnm hpub hhash hunl hun ip iu ih;obtain ⟨ap,np,cp,rfl⟩:=aay ip;obtain ⟨ah,nh,ch,rfl⟩:=aay ih;obtain ⟨au,nu,cu,rfl⟩:=iu.sl;simp only[nodC];obtain ⟨W0,hW0⟩:∃ W0:Int→World,W0=fun kk=>w.alloc (.cells #[.int .i64 kk,.int .i64 nm,.slice ap np cp,.slice au nu cu,.slice ah nh ch] 81):=⟨_,rfl⟩
 have HK0:Hid (∀ kk,Kp w (W0 kk)):=fun kk=>by rw[hW0];exact (Kp.refl _).alloc _
 have HC0:Hid (∀ kk,(W0 kk).rangeAt w.heap.size 0 [.int .i64 kk,.int .i64 nm,.slice ap np cp,.slice au nu cu,.slice ah nh ch]):=fun kk=>by
  rw[hW0];intro j v hv;rw[cell_of_row _ _ (0+j) _ _ _ (heap_alloc_new w _)];simpa using hv
 have HU:Hid (∀ kk W,Kp (W0 kk) W→W.cell? ⟨w.heap.size,0,none⟩=some (.int .i64 kk)∧W.cell? ⟨w.heap.size,1,none⟩=some (.int .i64 nm)∧W.cell? ⟨w.heap.size,2,none⟩=some (.slice ap np cp)∧W.cell? ⟨w.heap.size,3,none⟩=some (.slice au nu cu)∧W.cell? ⟨w.heap.size,4,none⟩=some (.slice ah nh ch)):=fun kk W hW=>
  ⟨hW.cell (HC0.out kk 0 _ rfl),hW.cell (HC0.out kk 1 _ rfl),hW.cell (HC0.out kk 2 _ rfl),hW.cell (HC0.out kk 3 _ rfl),hW.cell (HC0.out kk 4 _ rfl)⟩
 have HP:Hid (∀ kk W,Kp (W0 kk) W→Calls Tryz.prog 180 #[.slice ap np cp] W fun e w'=>(∃ r,e=.returned r∧Ow 5 w' W.heap.size r (rowB pub))∧Kp W w'):=fun kk W hW=>abs _ pub W (ip.kp ((HK0.out kk).trans hW))
 have HH:Hid (∀ kk W,Kp (W0 kk) W→Calls Tryz.prog 180 #[.slice ah nh ch] W fun e w'=>(∃ r,e=.returned r∧Ow 5 w' W.heap.size r (rowB hash))∧Kp W w'):=fun kk W hW=>abs _ hash W (ih.kp ((HK0.out kk).trans hW))
 have HPL:Hid (∀ kk W,Kp (W0 kk) W→Calls Tryz.prog 244 #[.slice au nu cu] W fun e w'=>(∃ r,e=.returned r∧Ow 5 w' W.heap.size r (unB un))∧Kp W w'):=fun kk W hW=>ahH _ un W (iu.kp ((HK0.out kk).trans hW)) (fun i hi=>by have:=hun i hi;omega) hunl
 have HNM:Hid (∀ W,Calls Tryz.prog 209 #[.int .i64 nm,.int .i64 2] W fun e w'=>(∃ r,e=.returned r∧Ow 5 w' W.heap.size r (be 2 nm.toNat))∧Kp W w'):=fun W=>by rw[← are hnm];exact acb _ _ W (by omega)
 have HKD:Hid (∀ (kk:Int) (b:UInt8) W,numB kk 1=[b]→-9223372036854775808≤kk∧kk≤9223372036854775807→Calls Tryz.prog 209 #[.int .i64 kk,.int .i64 1] W fun e w'=>(∃ r,e=.returned r∧Ow 5 w' W.heap.size r [b])∧Kp W w'):=fun kk b W e hb=>by rw[← e];exact acb _ _ W hb
 have HW0:Hid (∀ kk,w.alloc (.cells #[.int .i64 kk,.int .i64 nm,.slice ap np cp,.slice au nu cu,.slice ah nh ch] 81)=W0 kk):=fun kk=>by rw[hW0]
 clear hW0 HC0 ip iu ih hpub hhash hunl hun;rcases hk with rfl | rfl | rfl
 ·have HU:=Lib.hid (HU.out 0);have HW:=Lib.hid (HW0.out 0);have hkw:=Lib.hid (HK0.out 0)
  have HKD:=Lib.hid (fun W=>HKD.out 0 0 W (by decide) (by omega));generalize W0 0=WN at *;clear HK0 HP HH HPL HNM HW0;go_enter Tryz.func207,Tryz.ntmps207;go_wp2_with fail;rw[HW.out];have c0:=(HU.out _ (Kp.refl _)).1;go_wp2_with fail;refine (HKD.out _).mono ?_;rintro _ w2 ⟨⟨r2,rfl,o2⟩,k2⟩;have K2:=Lib.hid (And.intro o2 k2);have c0:=(HU.out _ k2).1;obtain ⟨a2,n2,b2,rfl⟩:=aay o2.rd;clear o2 k2;go_wp2_with fail;go_ret;exact ⟨⟨_,rfl,K2.out.1.mono hkw.out.size⟩,hkw.out.trans K2.out.2⟩
 ·have HU:=Lib.hid (HU.out 1);have HW:=Lib.hid (HW0.out 1);have hkw:=Lib.hid (HK0.out 1)
  have HP:=Lib.hid (HP.out 1);have HH:=Lib.hid (HH.out 1);have HKD:=Lib.hid (fun W=>HKD.out 1 1 W (by decide) (by omega));have HE:Hid (adn ⟨1,nm,pub,un,hash⟩=[[1],be 2 nm.toNat,rowB pub,rowB hash].flatten):=by unfold Hid;simp[adn]
  rw[HE.out] at hnl ⊢;have HNL:=Lib.hid hnl;generalize W0 1=WN at *;clear HK0 HPL HW0 hnl;go_enter Tryz.func207,Tryz.ntmps207;go_wp2_with fail;rw[HW.out];have c0:=(HU.out _ (Kp.refl _)).1;go_wp2_with fail;refine (HKD.out _).mono ?_;rintro _ w2 ⟨⟨r2,rfl,o2⟩,k2⟩;have K2:=Lib.hid k2;have O2:=Lib.hid o2.rd;have c0:=(HU.out _ k2).1;obtain ⟨a2,n2,b2,rfl⟩:=aay o2.rd;clear o2 k2;go_wp2_with fail;have HSS:Hid (∀ W,Kp WN W→W.cell? ⟨w.heap.size,1,none⟩=some (.int .i64 nm)∧W.cell? ⟨w.heap.size,2,none⟩=some (.slice ap np cp)∧W.cell? ⟨w.heap.size,4,none⟩=some (.slice ah nh ch)):=fun W hW=>⟨(HU.out W hW).2.1,(HU.out W hW).2.2.1,(HU.out W hW).2.2.2.2⟩
  have S2:=Lib.hid (HSS.out _ K2.out.drew);clear HU HW HKD HE c0;go_region_held3 (fun W=>W.cell? ⟨w.heap.size,1,none⟩=some (.int .i64 nm)∧W.cell? ⟨w.heap.size,2,none⟩=some (.slice ap np cp)∧W.cell? ⟨w.heap.size,4,none⟩=some (.slice ah nh ch))
   (first | with_reducible exact S2.out | with_reducible exact S3.out | with_reducible exact S4.out | with_reducible exact S5.out | with_reducible exact S6.out | with_reducible exact HSS.out _ (K5.out.alloc _))
   (first
    | (go_at_call 168;refine (abY _ [[1],be 2 nm.toNat,rowB pub,rowB hash] _ (RL.row4 w5 24 (O2.out.kp D5.out.1) (o3.rd.kp D5.out.2.1) (o4.rd.kp D5.out.2.2) o5.rd) (by simp) (by have:=HNL.out;omega) (by simp)).mono ?_;rintro _ w6 ⟨⟨r6,rfl,o6⟩,k6⟩;obtain ⟨a6,n6,b6,rfl⟩:=aay o6.rd;have K6:=Lib.hid ((K5.out.alloc _).trans k6);have S6:=Lib.hid (HSS.out _ K6.out))
    | (go_at_call 180;refine (HH.out _ K4.out).mono ?_;rintro _ w5 ⟨⟨r5,rfl,o5⟩,k5⟩;obtain ⟨a5,n5,b5,rfl⟩:=aay o5.rd;have K5:=Lib.hid (K4.out.trans k5);have S5:=Lib.hid (HSS.out _ K5.out);have D5:=Lib.hid (And.intro (D4.out.1.trans k5) (And.intro (D4.out.2.trans k5) k5)))
    | (go_at_call 180;refine (HP.out _ K3.out).mono ?_;rintro _ w4 ⟨⟨r4,rfl,o4⟩,k4⟩;obtain ⟨a4,n4,b4,rfl⟩:=aay o4.rd;have K4:=Lib.hid (K3.out.trans k4);have S4:=Lib.hid (HSS.out _ K4.out);have D4:=Lib.hid (And.intro (D3.out.trans k4) k4))
    | (go_at_call 209;refine (HNM.out _).mono ?_;rintro _ w3 ⟨⟨r3,rfl,o3⟩,k3⟩;obtain ⟨a3,n3,b3,rfl⟩:=aay o3.rd;have K3:=Lib.hid (K2.out.drew.trans k3);have S3:=Lib.hid (HSS.out _ K3.out);have D3:=Lib.hid ((Kp.drew (Kp.refl w2)).trans k3)))
  have KE:=Lib.hid (And.intro o6 (And.intro K5.out K6.out));clear S2 S3 S4 S5 S6 o6 o5 o4 o3 k6 HSS;go_wp2_with fail;go_ret;exact ⟨⟨_,rfl,KE.out.1.mono (Nat.le_trans (hkw.out.trans KE.out.2.1).size (by simp))⟩,hkw.out.trans KE.out.2.2⟩
 ·have HU:=Lib.hid (HU.out 2);have HW:=Lib.hid (HW0.out 2);have hkw:=Lib.hid (HK0.out 2)
  have HP:=Lib.hid (HP.out 2);have HH:=Lib.hid (HH.out 2);have HPL:=Lib.hid (HPL.out 2);have HKD:=Lib.hid (fun W=>HKD.out 2 2 W (by decide) (by omega));have HE:Hid (adn ⟨2,nm,pub,un,hash⟩=[[2],rowB pub,rowB hash,rowB (unB un)].flatten):=by unfold Hid;simp[adn]
  rw[HE.out] at hnl ⊢;have HNL:=Lib.hid hnl;generalize W0 2=WN at *;clear HK0 HW0 hnl HNM;go_enter Tryz.func207,Tryz.ntmps207;go_wp2_with fail;rw[HW.out];have c0:=(HU.out _ (Kp.refl _)).1;go_wp2_with fail;refine (HKD.out _).mono ?_;rintro _ w2 ⟨⟨r2,rfl,o2⟩,k2⟩;have K2:=Lib.hid k2;have O2:=Lib.hid o2.rd;have c0:=(HU.out _ k2).1;obtain ⟨a2,n2,b2,rfl⟩:=aay o2.rd;clear o2 k2;go_wp2_with fail;have HSS:Hid (∀ W,Kp WN W→W.cell? ⟨w.heap.size,2,none⟩=some (.slice ap np cp)∧W.cell? ⟨w.heap.size,3,none⟩=some (.slice au nu cu)∧W.cell? ⟨w.heap.size,4,none⟩=some (.slice ah nh ch)):=fun W hW=>⟨(HU.out W hW).2.2.1,(HU.out W hW).2.2.2.1,(HU.out W hW).2.2.2.2⟩
  have S2:=Lib.hid (HSS.out _ K2.out.drew);clear HU HW HKD HE c0;go_region_held3 (fun W=>W.cell? ⟨w.heap.size,2,none⟩=some (.slice ap np cp)∧W.cell? ⟨w.heap.size,3,none⟩=some (.slice au nu cu)∧W.cell? ⟨w.heap.size,4,none⟩=some (.slice ah nh ch))
   (first | with_reducible exact S2.out | with_reducible exact S3.out | with_reducible exact S4.out | with_reducible exact S5.out | with_reducible exact S6.out | with_reducible exact S7.out | with_reducible exact HSS.out _ (K6.out.alloc _))
   (first
    | (go_at_call 168;refine (abY _ [[2],rowB pub,rowB hash,rowB (unB un)] _ (RL.row4 w6 24 (O2.out.kp D6.out.1) (o3.rd.kp D6.out.2.1) (o4.rd.kp D6.out.2.2) o6.rd) (by simp) (by have:=HNL.out;omega) (by simp)).mono ?_;rintro _ w7 ⟨⟨r7,rfl,o7⟩,k7⟩;obtain ⟨a7,n7,b7,rfl⟩:=aay o7.rd;have K7:=Lib.hid ((K6.out.alloc _).trans k7);have S7:=Lib.hid (HSS.out _ K7.out))
    | (go_at_call 180;refine (abs _ (unB un) w5 o5.rd).mono ?_;rintro _ w6 ⟨⟨r6,rfl,o6⟩,k6⟩;obtain ⟨a6,n6,b6,rfl⟩:=aay o6.rd;have K6:=Lib.hid (K5.out.trans k6);have S6:=Lib.hid (HSS.out _ K6.out);have D6:=Lib.hid (And.intro (D5.out.1.trans k6) (And.intro (D5.out.2.1.trans k6) (D5.out.2.2.trans k6))))
    | (go_at_call 244;refine (HPL.out _ K4.out).mono ?_;rintro _ w5 ⟨⟨r5,rfl,o5⟩,k5⟩;obtain ⟨a5,n5,b5,rfl⟩:=aay o5.rd;have K5:=Lib.hid (K4.out.trans k5);have S5:=Lib.hid (HSS.out _ K5.out);have D5:=Lib.hid (And.intro (D4.out.1.trans k5) (And.intro (D4.out.2.trans k5) k5)))
    | (go_at_call 180;refine (HH.out _ K3.out).mono ?_;rintro _ w4 ⟨⟨r4,rfl,o4⟩,k4⟩;obtain ⟨a4,n4,b4,rfl⟩:=aay o4.rd;have K4:=Lib.hid (K3.out.trans k4);have S4:=Lib.hid (HSS.out _ K4.out);have D4:=Lib.hid (And.intro (D3.out.trans k4) k4))
    | (go_at_call 180;refine (HP.out _ K2.out.drew).mono ?_;rintro _ w3 ⟨⟨r3,rfl,o3⟩,k3⟩;obtain ⟨a3,n3,b3,rfl⟩:=aay o3.rd;have K3:=Lib.hid (K2.out.drew.trans k3);have S3:=Lib.hid (HSS.out _ K3.out);have D3:=Lib.hid ((Kp.drew (Kp.refl w2)).trans k3)))
  have KE:=Lib.hid (And.intro o7 (And.intro K6.out K7.out));clear S2 S3 S4 S5 S6 S7 o7 o6 o5 o4 o3 k7 HSS;go_wp2_with fail;go_ret;exact ⟨⟨_,rfl,KE.out.1.mono (Nat.le_trans (hkw.out.trans KE.out.2.1).size (by simp))⟩,hkw.out.trans KE.out.2.2⟩
end Go.Proofs.YthmhklmkgkfcpaaGreatDoor
namespace Go.Proofs.YthmhklmkgkfcpaaGreatDoor
open Go.RowKit Go.ChangeShapes Go.WideShapes Go.Deep
instance:Inhabited Nod:=⟨aao⟩
section
variable {H : Type} {enc : TypeId × Value → H} {P : Program} {w : World} {base : Nat} {spare : Nat → Bool} {held : Bool}
theorem RI.of_one {t e:TypeId}{fuel:Nat}{v:Value}{x:DataW H × List MemPlace}(ht:P.underlying t=some (.slice e))(he:P.underlying e=some (.int .i64))(hc:P.cellsOf e=1)
  (h:DataW.trod enc P w base spare held fuel t [v]=some x):∃ l,RI w v l:=by
 rcases open_ints ht he hc h with ⟨hcs,_⟩ | ⟨a,len,cap,zs,hcs,_,hl,hm,hz,_,hcell,_⟩
 ·cases hcs
  exact ⟨[],RI.nil w⟩
 ·cases hcs
  have hzl:len≤zs.length:=by rw[hz];split <;> omega
  have hlen:((zs.take len).map nI).length=len:=by simp;omega
  refine ⟨zs.take len,some a,cap,by rw[hlen],by rw[hlen];exact hl,hm,fun h=>(by cases h),fun y hy i hi=>?_⟩;cases hy;rw[hlen] at hi;rw[hcell i (by omega)];simp[nI,List.getD_eq_getElem?_getD,List.getElem?_eq_getElem (show i<zs.length by omega)]
theorem NL.of_cells {t e:TypeId}{f0 f1 f2 f3 f4:Field}{fuel:Nat}{cs:List Value}{x:DataW H × List MemPlace}{eb ei:TypeId}(ht:P.underlying t=some (.slice e))(he:P.underlying e=some (.struct #[f0,f1,f2,f3,f4]))
  (hone:oneCellFields P #[f0,f1,f2,f3,f4]=true) (hC:P.cellsOf e=5) (h0:P.underlying f0.type=some (.int .i64)) (h1:P.underlying f1.type=some (.int .i64)) (h2:P.underlying f2.type=some (.slice eb)) (h3:P.underlying f3.type=some (.slice ei)) (h4:P.underlying f4.type=some (.slice eb))
  (hb:P.underlying eb=some (.int .u8)) (hbc:P.cellsOf eb=1) (hi:P.underlying ei=some (.int .i64)) (hic:P.cellsOf ei=1)
  (h:DataW.trod enc P w base spare held fuel t cs=some x):∃ v l,cs=[v]∧NL w v l:=by
 rcases open_slice ht h with ⟨hcs,_⟩ | ⟨a,len,cap,m,n,D,Pl,hcs,_,hl,hm,hmm,_,hel⟩
 ·exact ⟨_,[],hcs,NL.nil w⟩
 ·have hlm:len≤m:=by rw[hmm];split <;> omega
  rw[hC] at hel;have key:∀ i,i<len→∃ nd:Nod,∃ p u q,(w.cell? (a.add (i*5))=some (.int .i64 nd.kind)∧w.cell? ((a.add (i*5)).add 1)=some (.int .i64 nd.name)∧w.cell? ((a.add (i*5)).add 2)=some p∧w.cell? ((a.add (i*5)).add 3)=some u∧w.cell? ((a.add (i*5)).add 4)=some q)∧NIn w nd p u q:=by
   intro i hil;obtain ⟨cs',hcc,htr⟩:=hel i (by omega);obtain ⟨_,hl5,hat⟩:=World.cells?_some hcc;obtain ⟨xs,n',_,_,_,hxs,hg⟩:=DataW.trod_struct he htr;obtain ⟨o0,k0⟩:=hone_of hone 0 f0 rfl;obtain ⟨o1,k1⟩:=hone_of hone 1 f1 rfl;obtain ⟨o2,k2⟩:=hone_of hone 2 f2 rfl;obtain ⟨o3,k3⟩:=hone_of hone 3 f3 rfl;obtain ⟨o4,k4⟩:=hone_of hone 4 f4 rfl;match cs',hl5 with
   | [c0,c1,c2,c3,c4],_=>
    have hxl:xs.length=5:=hxs;match xs,hxl with
    | [y0,y1,y2,y3,y4],_=>
     have g0:DataW.trod enc P w base spare held n' f0.type [c0]=some y0:=by simpa [o0,k0] using hg 0 f0 rfl
     have g1:DataW.trod enc P w base spare held n' f1.type [c1]=some y1:=by simpa [o1,k1] using hg 1 f1 rfl
     have g2:DataW.trod enc P w base spare held n' f2.type [c2]=some y2:=by simpa [o2,k2] using hg 2 f2 rfl
     have g3:DataW.trod enc P w base spare held n' f3.type [c3]=some y3:=by simpa [o3,k3] using hg 3 f3 rfl
     have g4:DataW.trod enc P w base spare held n' f4.type [c4]=some y4:=by simpa [o4,k4] using hg 4 f4 rfl
     obtain ⟨n0,e0,_,_⟩:=DataW.trod_int h0 g0;obtain ⟨n1,e1,_,_⟩:=DataW.trod_int h1 g1;cases e0;cases e1;obtain ⟨l2,r2⟩:=Rd.of_one h2 hb hbc g2;obtain ⟨l3,r3⟩:=RI.of_one h3 hi hic g3;obtain ⟨l4,r4⟩:=Rd.of_one h4 hb hbc g4;refine ⟨⟨n0,n1,l2,l3,l4⟩,c2,c3,c4,⟨?_,hat 1 (by omega),hat 2 (by omega),hat 3 (by omega),hat 4 (by omega)⟩,r2,r3,r4⟩;have:=hat 0 (by omega);rwa [show (a.add (i*5)).add 0=a.add (i*5) by unfold Addr.add;split <;> simp_all] at this
  obtain ⟨l,hll,hlq⟩:=agu len _ key aao;refine ⟨_,l,by rw[hcs,hll],some a,cap,rfl,by omega,hm,fun h=>(by cases h),fun h0=>?_⟩;rw[hll] at h0;obtain ⟨b,off,spot⟩:=a;obtain ⟨p,u,q,⟨hc0,_⟩,_⟩:=hlq 0 h0;have hs:spot=none:=by simpa [Addr.add] using World.cell?_spot hc0
  subst hs;refine ⟨b,off,rfl,World.block_lt_of_cell? w _ hc0,fun i hi=>?_⟩;rw[hll] at hi;obtain ⟨p,u,q,⟨d0,d1,d2,d3,d4⟩,hin⟩:=hlq i hi;simp only[Addr.add_mid] at d0 d1 d2 d3 d4;refine ⟨p,u,q,fun j v hj=>?_,hin⟩;have hj5:j<5:=(List.getElem?_eq_some_iff.1 hj).1;match j,hj5 with
  | 0,_=>cases hj;exact d0
  | 1,_=>cases hj;exact d1
  | 2,_=>cases hj;exact d2
  | 3,_=>cases hj;exact d3
  | 4,_=>cases hj;exact d4
end
end Go.Proofs.YthmhklmkgkfcpaaGreatDoor
