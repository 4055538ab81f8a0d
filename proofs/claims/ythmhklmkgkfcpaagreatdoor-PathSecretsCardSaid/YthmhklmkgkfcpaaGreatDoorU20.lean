import Derived.Test.YthmhklmkgkfcpaaGreatDoorU8
import Derived.Test.YthmhklmkgkfcpaaGreatDoorU10
import Derived.Test.YthmhklmkgkfcpaaGreatDoorU11
import Derived.Test.YthmhklmkgkfcpaaGreatDoorU14
import Derived.Test.YthmhklmkgkfcpaaGreatDoorU15
import Derived.Test.YthmhklmkgkfcpaaGreatDoorU18
import Derived.Test.YthmhklmkgkfcpaaGreatDoorU19
import Derived.Deep.QuietTactic
import Derived.BigQuiet
import Derived.Lib.ConvBytes
import Derived.Lib.SlicesCompact
import Derived.WalkMore
import Derived.Shelf.Spec.SlicesInsertGrow
import Derived.Shelf.Spec.SlicesInsert
import Derived.Shelf.Sort.Plain
import Derived.Ground.Names2Prog
import Derived.Shelf.Slices.SearchI
import Derived.Shelf.Slices.In.SortNone
import Derived.Shelf.Bytes.SlEqualAll
import Derived.Shelf.Bytes.Small
import Derived.Test.YthmhklmkgkfcpaaGreatDoorProg
import Derived.Sort.OwnSortedInts
import Derived.Lib.OwnBridge
set_option linter.unusedVariables false
set_option linter.unusedSimpArgs false
set_option maxHeartbeats 8000000
set_option maxRecDepth 100000
namespace Go.Proofs.YthmhklmkgkfcpaaGreatDoor
open Go.RowKit
def Bx (w:World)(b:Nat)(T:TypeId)(cs:Array Value):Prop:=w.heap[b]?=some (.cells cs T (0,0))
theorem Bx.kp {w w':World}{b:Nat}{T:TypeId}{cs:Array Value}(h:Bx w b T cs)(k:Kp w w'):Bx w' b T cs:=
 (Below.block k b (Array.getElem?_eq_some_iff.1 h).1).trans h
theorem Bx.cell {w:World}{b:Nat}{T:TypeId}{cs:Array Value}(h:Bx w b T cs)(j:Nat):w.cell? ⟨b,j,none⟩=cs[j]?:=cell_of_row w b j cs T (0,0) h
theorem Bx.frozen {w:World}{b:Nat}{T:TypeId}{cs:Array Value}(h:Bx w b T cs)(j:Nat):w.frozen? ⟨b,j,none⟩=false:=frozen_of_row w b j cs T h
theorem Bx.new (w:World)(T:TypeId)(cs:Array Value):Bx (w.alloc (.cells cs T)) w.heap.size T cs:=heap_alloc_new w _
theorem Bx.set {w:World}{b:Nat}{T:TypeId}{cs:Array Value}(h:Bx w b T cs)(j:Nat)(v:Value):Bx (w.setCell ⟨b,j,none⟩ v) b T (cs.setIfInBounds j v):=heap_setCell_same w b j cs T v h
theorem Kp.setNew {w w':World}(h:Kp w w'){b j:Nat}(hb:w.heap.size≤b)(v:Value):Kp w (w'.setCell ⟨b,j,none⟩ v):=Below.setCell h hb v
theorem aac {w:World}{v:Value}{l:List UInt8}(h:Rd w v l):∃ a n c,v=.slice a n c:=by
 obtain ⟨a,c,e,_⟩:=h.shape;exact ⟨_,_,_,e⟩
theorem Bx.setCells {b:Nat}{T:TypeId}:∀ (vs:List Value) (o:Nat) (w:World) (cs:Array Value),Bx w b T cs→o+vs.length≤cs.size →
  ∃ cs':Array Value,Bx (w.setCells b o vs) b T cs'∧cs'.size=cs.size∧∀ k,cs'[k]?=if o≤k∧k<o+vs.length then vs[k - o]? else cs[k]?
 | [],o,w,cs,h,_=>⟨cs,h,rfl,fun k=>by rw[if_neg (by simp only[List.length_nil];omega)]⟩
 | v :: vs,o,w,cs,h,hl=>by
  simp only[List.length_cons] at hl
  obtain ⟨cs',h2,h3,h4⟩:=Bx.setCells vs (o+1) (w.setCell ⟨b,o,none⟩ v) (cs.setIfInBounds o v) (h.set o v) (by rw[Array.size_setIfInBounds];omega)
  refine ⟨cs',h2,by rw[h3,Array.size_setIfInBounds],fun k=>?_⟩
  rw[h4 k]
  simp only[List.length_cons]
  by_cases h5:o+1≤k∧k<o+1+vs.length
  ·rw[if_pos h5,if_pos ⟨by omega,by omega⟩,show k - o=(k - (o+1))+1 by omega,List.getElem?_cons_succ]
  ·rw[if_neg h5,Array.getElem?_setIfInBounds]
   by_cases h6:o=k
   ·subst h6
    rw[if_pos rfl,if_pos (by omega),if_pos ⟨by omega,by omega⟩,Nat.sub_self]
    rfl
   ·rw[if_neg h6,if_neg (by omega)]
theorem Bx.fill {w:World}{b:Nat}{T:TypeId}{cs:Array Value}(h:Bx w b T cs)(vs:Array Value)(hl:vs.size=cs.size):Bx (w.setCells b 0 vs.toList) b T vs:=by
 obtain ⟨cs',h1,h2,h3⟩:=Bx.setCells vs.toList 0 w cs h (by rw[Array.length_toList];omega);have e:cs'=vs:=by
  refine Array.ext_getElem? fun k=>?_
  rw[h3 k,Array.length_toList];split
  ·rw[Nat.sub_zero,Array.getElem?_toList]
  ·next hk=>rw[Array.getElem?_eq_none (by omega),Array.getElem?_eq_none (by omega)]
 exact e▸h1
theorem Bx.there {w:World}{b:Nat}{T:TypeId}{cs:Array Value}(h:Bx w b T cs):w.there b 0 cs.size:=fun j hj=>by
 rw[Nat.zero_add,h.cell j];exact ⟨by simp[hj],h.frozen j⟩
theorem Kp.setCells {w w':World}(h:Kp w w'){b:Nat}(hb:w.heap.size≤b):∀ (vs:List Value) (o:Nat),Kp w (w'.setCells b o vs):=by
 intro vs
 induction vs generalizing w' with
 | nil=>intro o;exact h
 | cons v vs ih=>intro o;exact ih (h.setNew hb v) (o+1)
theorem agA (k:Int)(w:World)(h:k≤7):
  Calls Tryz.prog 110 #[.int .i64 k] w fun e w'=>e=.returned (.int .i64 (pw k.toNat))∧w=w':=by
 by_cases h0:0≤k
 ·obtain ⟨k,rfl⟩:=Int.eq_ofNat_of_zero_le h0
  rw[Int.toNat_natCast];go_enter Tryz.func110,Tryz.ntmps110;go_wp2;go_loop [3,4] (fun n i=>∃ j:Nat,j≤k∧i=.int .i64 j∧n=.int .i64 (pw j)) (fun _ i=>k - (intOf i).toNat)
  case atStart=>exact ⟨0,Nat.zero_le _,rfl,rfl⟩
  case round=>
   obtain ⟨j,hj,rfl,rfl⟩:=hrel;by_cases hlt:j<k
   ·have hb:=aq1 j (by omega)
    have hs:=Lib.hid (amT j);go_wp2;go_round
    case rel=>exact ⟨j+1,by omega,by go_num,by rw[hs.out];go_num⟩
    case measure=>simp[intOf];omega
   ·go_wp2
    go_ret;have:j=k:=by omega
    subst this;exact ⟨rfl,rfl⟩
 ·have e:k.toNat=0:=by omega
  rw[e];go_enter Tryz.func110,Tryz.ntmps110;go_wp2;refine wp_loop_rounds 1 ?_;rw[rounds_succ];go_wp2;go_ret;exact ⟨rfl,rfl⟩
theorem aqs (k t n:Nat)(h:t<k):be (k - t) (n / pw t)=be (k - (t+1)) (n / pw (t+1))++[UInt8.ofNat (n / pw t)]:=by
 obtain ⟨m,rfl⟩:∃ m,k=t+1+m:=⟨k - (t+1),by omega⟩;rw[show t+1+m - t=m+1 from by omega,show t+1+m - (t+1)=m from by omega,be,amT,Nat.mul_comm 256,← Nat.div_div_eq_div_mul]
theorem ahX (n k:Int)(w:World)(hn:-9223372036854775808≤n∧n≤9223372036854775807):
  Calls Tryz.prog 62 #[.int .i64 n,.int .i64 k] w fun e w'=>∃ v,e=.returned (.tuple #[v,.int .i64 (numE n k)])∧Ow 5 w' w.heap.size v (numB n k)∧Kp w w':=by
 have U:=arN;by_cases h1:aed n k
 ·obtain ⟨e1,e2⟩:=adP h1
  have E1:=Lib.hid e1;have E2:=Lib.hid e2;clear e1 e2;obtain ⟨k1,k7,n0,hlt⟩:=h1;obtain ⟨n,rfl⟩:=Int.eq_ofNat_of_zero_le n0;obtain ⟨k,rfl⟩:=Int.eq_ofNat_of_zero_le (show 0≤k by omega);have hlt':n<pw k:=(ahV n k).1 hlt;clear hlt;have hdk:decide (pw k≤n)=false:=by simp;omega
  generalize hB:w.heap.size=B at *;have HB:=Lib.hid hB;clear hB;go_enter Tryz.func62,Tryz.ntmps62;go_wp2_with (go_at_call 110;refine (agA _ _ k7).mono ?_;rintro e w' ⟨rfl,rfl⟩;rw[Int.toNat_natCast])
  go_loopw[6,7] (fun v i wr=>∃ t:Nat,t≤k∧i=.int .i64 ((t:Int) - 1)∧Ow 5 wr B v (be (k - t) (n / pw t))∧Below B w wr) (fun _ i _=>(intOf i+1).toNat)
  case atStart=>exact ⟨k,Nat.le_refl _,rfl,by rw[Nat.sub_self];exact Ow.nil _ _ _,Below.refl _ _⟩
  case round=>
   obtain ⟨t,ht,rfl,hown,hbel⟩:=hrel;cases t with
   | zero=>
    go_wp2_with fail;go_ret2;rw[E1.out,E2.out];exact ⟨_,rfl,by simpa [pw] using hown,hbel.mono (by rw[HB.out];exact Nat.le_refl _)⟩
   | succ t=>
    rw[show ((t+1:Nat):Int) - 1=t from by omega];have hp:=aq0 t;have hb:=pw_le t (by omega);have hB:=hbel.size;have hBw:B≤wr.heap.size:=by rw[← HB.out];exact hB
    obtain ⟨q,hq⟩:∃ q:Nat,q=n / pw t:=⟨_,rfl⟩;have hqn:q≤n:=by rw[hq];exact Nat.div_le_self _ _
    have hd:(n:Int) / (pw t:Int)=(q:Int):=by rw[hq];rfl
    have HQ:=Lib.hid hq;clear hq;go_wp2_with (first
     | (go_at_call 110;refine (agA _ _ (by omega)).mono ?_;rintro e w' ⟨rfl,rfl⟩;rw[Int.toNat_natCast])
     | (at_builtin;refine aae U rfl _ _ rfl B _ _ rfl (hown.kp ((Kp.refl _).alloc _)) _ [UInt8.ofNat q] rfl ?c1 ?c2 ?c3 ?_))
    case c1=>exact Rd.box _ _ _ _ (by simp)
    case c2=>rw[aak];simp;omega
    case c3=>simp;omega
    intro v' w1 hown1 hg _;have hb1:Below B w w1:=Below.grown' (hbel.alloc hBw _) hg (by simp;omega) (hown.kp ((Kp.refl _).alloc _));clear hg hown;go_wp2;go_roundw
    case rel=>exact ⟨t,by omega,rfl,by rw[aqs k t n (by omega),← HQ.out];exact hown1,hb1⟩
    case measure=>simp[intOf]
 ·obtain ⟨e1,e2⟩:=ahL h1
  rw[e1,e2];clear e1 e2;by_cases h2:k<1
  ·have d2:decide (k<1)=true:=by simp[h2]
   go_enter Tryz.func62,Tryz.ntmps62;go_wp2_with fail;go_ret2;exact ⟨_,rfl,Ow.nil _ _ _,Kp.refl _⟩
  ·have d2:decide (k<1)=false:=by simp[h2]
   by_cases h3:7<k
   ·have d3:decide (7<k)=true:=by simp[h3]
    go_enter Tryz.func62,Tryz.ntmps62;go_wp2_with fail;go_ret2;exact ⟨_,rfl,Ow.nil _ _ _,Kp.refl _⟩
   ·have d3:decide (7<k)=false:=by simp[h3]
    by_cases h4:n<0
    ·have d4:decide (n<0)=true:=by simp[h4]
     go_enter Tryz.func62,Tryz.ntmps62;go_wp2_with fail;go_ret2;exact ⟨_,rfl,Ow.nil _ _ _,Kp.refl _⟩
    ·have d4:decide (n<0)=false:=by simp[h4]
     obtain ⟨n,rfl⟩:=Int.eq_ofNat_of_zero_le (show 0≤n by omega);obtain ⟨k,rfl⟩:=Int.eq_ofNat_of_zero_le (show 0≤k by omega);have hge:pw k≤n:=by
      rcases Nat.lt_or_ge n (pw k) with h | h
      ·exact absurd ⟨by omega,by omega,by omega,(ahV n k).2 h⟩ h1
      ·exact h
     have d5:decide (pw k≤n)=true:=by simp[hge]
     clear h1;go_enter Tryz.func62,Tryz.ntmps62;go_wp2_with (go_at_call 110;refine (agA _ _ (by omega)).mono ?_;rintro e w' ⟨rfl,rfl⟩;rw[Int.toNat_natCast])
     go_ret2;exact ⟨_,rfl,Ow.nil _ _ _,Kp.refl _⟩
theorem mark0 (n:Int)(w:World)(h:n<64):
  Calls Tryz.prog 195 #[.int .i64 n] w fun e w'=>e=.returned (.int .i64 0)∧w=w':=by
 go_enter Tryz.func195,Tryz.ntmps195;go_wp2;go_ret;exact ⟨rfl,rfl⟩
theorem mark1 (n:Int)(w:World)(h0:64≤n)(h:n<16384):
  Calls Tryz.prog 195 #[.int .i64 n] w fun e w'=>e=.returned (.int .i64 1)∧w=w':=by
 go_enter Tryz.func195,Tryz.ntmps195;go_wp2;go_ret;exact ⟨rfl,rfl⟩
theorem mark2 (n:Int)(w:World)(h0:16384≤n):
  Calls Tryz.prog 195 #[.int .i64 n] w fun e w'=>e=.returned (.int .i64 2)∧w=w':=by
 go_enter Tryz.func195,Tryz.ntmps195;go_wp2;go_ret;exact ⟨rfl,rfl⟩
theorem afj (x m:Int)(h0:0≤x)(h1:x<64)(hm:m=0∨m=64∨m=128):bits .or .u8 x m=x+m:=by
 have hc:bits .or .u8 x m=bits .or .u8 m x:=by simp only[bits,BitVec.or_comm]
 rw[hc,bits_join .u8 8 (by decide) wraps_u8 6 m x (by omega) (by omega) (by omega) h0 (by omega) (by omega)];omega
theorem ao5 (k n m:Nat)(h:n / 256 ^ k+m<256):be (k+1) (n+m*256 ^ k)=UInt8.ofNat (n / 256 ^ k+m) :: be k n:=by
 rw[aeo,Nat.add_mul_div_right _ _ (Nat.pow_pos (by decide))];congr 1
 have h2:∀ k n m,be k (n+m*256 ^ k)=be k n:=by
  intro k;induction k with
  | zero=>intro n m;rfl
  | succ k ih=>
   intro n m;rw[be,be,show n+m*256 ^ (k+1)=n+256*(m*256 ^ k) from by rw[Nat.pow_succ,← Nat.mul_assoc,Nat.mul_comm 256],
    Nat.add_mul_div_left _ _ (by decide),ih]
   congr 2
   apply UInt8.toNat_inj.1;simp
 exact h2 k n m
theorem Ow.set0 {w:World}{B:Nat}{v:Value}{k' n':Nat}(h:Ow 5 w B v (be k' n'))(k n m:Nat)(hm:n / 256 ^ k+m<256)(hk:k'=k+1:=by rfl)(hn:n'=n:=by first | rfl | simp):
  ∃ g c,v=.slice (some ⟨g,0,none⟩) (k+1) c∧B≤g∧w.cell? ⟨g,0,none⟩=some (.int .u8 ((n / 256 ^ k:Nat):Int))∧w.frozen? ⟨g,0,none⟩=false ∧
   Ow 5 (w.setCell ⟨g,0,none⟩ (.int .u8 ((n / 256 ^ k+m:Nat):Int))) B v (be (k+1) (n+m*256 ^ k)):=by
 subst hk hn;rcases h.shape with ⟨_,h0⟩ | ⟨g,c,rfl,hg,_,hc,hcm⟩
 ·have:=congrArg List.length h0
  rw[aak] at this;simp at this
 ·have hl:(be (k+1) n').length=k+1:=aak _ _
  refine ⟨g,c,by rw[hl],hg,?_,h.frozenAt 0,?_⟩
  ·rw[h.cellAt 0 (by rw[hl];omega),aeo]
   have:n' / 256 ^ k % 256=n' / 256 ^ k:=Nat.mod_eq_of_lt (by omega);simp[Lib.byteCells,this]
  ·have h2:=(h.stored 0 (.int .u8 ((n' / 256 ^ k+m:Nat):Int))).1
   unfold Ow;rw[aak,ao5 k n' m hm];rw[aak,aeo] at h2;generalize n' / 256 ^ k=q at *;have:(q+m) % 256=q+m:=Nat.mod_eq_of_lt hm;have e:Lib.byteCells (UInt8.ofNat (q+m) :: be k n')=(Lib.byteCells (UInt8.ofNat q :: be k n')).set 0 (.int .u8 ((q+m:Nat):Int)):=by
    simp only[Lib.byteCells,List.map_cons,List.set_cons_zero,UInt8.toNat_ofNat',Nat.reducePow,this]
   rw[e,List.length_cons,aak];exact h2
theorem acl (n k:Int)(w:World)(h0:0≤n)(h1:1≤k)(h7:k≤7):
  Calls Tryz.prog 135 #[.int .i64 n,.int .i64 k] w fun e w'=>∃ v,e=.returned v∧Ow 5 w' w.heap.size v (be k.toNat n.toNat)∧Kp w w':=by
 obtain ⟨k,rfl⟩:=Int.eq_ofNat_of_zero_le (show 0≤k by omega);exact adG n k w h0 (by omega) (by omega)
theorem akq (n:Int)(w:World):
  Calls Tryz.prog 167 #[.int .i64 n] w fun e w'=>∃ v,e=.returned (.tuple #[v,.int .i64 (lenE n)])∧Ow 5 w' w.heap.size v (lenB n)∧Kp w w':=by
 by_cases h1:n<0
 ·have d1:decide (n<0)=true:=by simp[h1]
  have e1:lenE n=1:=if_pos (.inl h1);have e2:lenB n=[]:=by simp[lenB,e1]
  rw[e1,e2];clear e1 e2;go_enter Tryz.func167,Tryz.ntmps167;go_wp2_with fail;go_ret2;exact ⟨_,rfl,Ow.nil _ _ _,Kp.refl _⟩
 ·have d1:decide (n<0)=false:=by simp[h1]
  by_cases h2:1073741823<n
  ·have d2:decide (1073741823<n)=true:=by simp[h2]
   have e1:lenE n=1:=if_pos (.inr h2);have e2:lenB n=[]:=by simp[lenB,e1]
   rw[e1,e2];clear e1 e2;go_enter Tryz.func167,Tryz.ntmps167;go_wp2_with fail;go_ret2;exact ⟨_,rfl,Ow.nil _ _ _,Kp.refl _⟩
  ·have d2:decide (1073741823<n)=false:=by simp[h2]
   obtain ⟨n,rfl⟩:=Int.eq_ofNat_of_zero_le (show 0≤n by omega);have e1:lenE n=0:=if_neg (by omega);have e2:lenB n=aat n:=by simp[lenB,e1]
   rw[e1,e2];clear e1 e2;by_cases h3:n<64
   ·have HE:Hid (aat n=be 1 (n+0*256 ^ 0)):=by show aat n=be 1 (n+0*256 ^ 0);simp[aat,h3]
    have hor:bits .or .u8 (n:Int) 0=n:=by rw[afj _ _ (by omega) (by omega) (by omega)];omega
    go_enter Tryz.func167,Tryz.ntmps167;go_wp2_with (first | (go_at_call 195;refine (mark0 _ _ (by omega)).mono ?_;rintro e w' ⟨rfl,rfl⟩) | (go_at_call 135;refine (acl _ 1 _ (by omega) (by omega) (by omega)).mono ?_;rintro e w1 ⟨v,rfl,ho,hk⟩;obtain ⟨g,c,rfl,hg,hcell,hfr,ho2⟩:=ho.set0 0 n 0 (by simp;omega);simp at hcell))
    go_ret2;refine ⟨_,rfl,?_,Below.setCell hk hg _⟩;rw[HE.out];simpa using ho2
   ·by_cases h4:n<16384
    ·have HE:Hid (aat n=be 2 (n+64*256 ^ 1)):=by show aat n=be 2 (n+64*256 ^ 1);simp[aat,h3,h4]
     have hor:bits .or .u8 ((n:Int) / 256) 64=(n:Int) / 256+64:=afj _ _ (by omega) (by omega) (by omega);go_enter Tryz.func167,Tryz.ntmps167;go_wp2_with (first | (go_at_call 195;refine (mark1 _ _ (by omega) (by omega)).mono ?_;rintro e w' ⟨rfl,rfl⟩) | (go_at_call 135;refine (acl _ 2 _ (by omega) (by omega) (by omega)).mono ?_;rintro e w1 ⟨v,rfl,ho,hk⟩;obtain ⟨g,c,rfl,hg,hcell,hfr,ho2⟩:=ho.set0 1 n 64 (by omega);simp at hcell))
     go_ret2;refine ⟨_,rfl,?_,Below.setCell hk hg _⟩;rw[HE.out];simpa using ho2
    ·have HE:Hid (aat n=be 4 (n+128*256 ^ 3)):=by show aat n=be 4 (n+128*256 ^ 3);simp[aat,h3,h4]
     have hor:bits .or .u8 ((n:Int) / 16777216) 128=(n:Int) / 16777216+128:=afj _ _ (by omega) (by omega) (by omega);go_enter Tryz.func167,Tryz.ntmps167;go_wp2_with (first | (go_at_call 195;refine (mark2 _ _ (by omega)).mono ?_;rintro e w' ⟨rfl,rfl⟩) | (go_at_call 135;refine (acl _ 4 _ (by omega) (by omega) (by omega)).mono ?_;rintro e w1 ⟨v,rfl,ho,hk⟩;obtain ⟨g,c,rfl,hg,hcell,hfr,ho2⟩:=ho.set0 3 n 128 (by omega);simp at hcell))
     go_ret2;refine ⟨_,rfl,?_,Below.setCell hk hg _⟩;rw[HE.out];simpa using ho2
def TL (l:List UInt8)(at':Int)(w:World)(e:Ending)(w':World):Prop:=
 e=.returned (.tuple #[.int .i64 (tlN l at'),.int .i64 (tlP l at'),.int .i64 (tlE l at')])∧Kp w w'
theorem ahY (n:Int)(w:World):
  Calls Tryz.prog 150 #[.int .i64 n] w fun e w'=>∃ v,e=.returned (.tuple #[v,.int .i64 (lenE n)])∧Ow 5 w' w.heap.size v (lenB n)∧Kp w w':=by
 by_cases h1:n<0
 ·have d1:decide (n<0)=true:=by simp[h1]
  have e1:lenE n=1:=if_pos (.inl h1);have e2:lenB n=[]:=by simp[lenB,e1]
  rw[e1,e2];clear e1 e2;go_enter Tryz.func150,Tryz.ntmps150;go_wp2_with fail;go_ret2;exact ⟨_,rfl,Ow.nil _ _ _,Kp.refl _⟩
 ·have d1:decide (n<0)=false:=by simp[h1]
  by_cases h2:1073741823<n
  ·have d2:decide (1073741823<n)=true:=by simp[h2]
   have e1:lenE n=1:=if_pos (.inr h2);have e2:lenB n=[]:=by simp[lenB,e1]
   rw[e1,e2];clear e1 e2;go_enter Tryz.func150,Tryz.ntmps150;go_wp2_with fail;go_ret2;exact ⟨_,rfl,Ow.nil _ _ _,Kp.refl _⟩
  ·have d2:decide (1073741823<n)=false:=by simp[h2]
   obtain ⟨n,rfl⟩:=Int.eq_ofNat_of_zero_le (show 0≤n by omega);have e1:lenE n=0:=if_neg (by omega);have e2:lenB n=aat n:=by simp[lenB,e1]
   rw[e1,e2];clear e1 e2;by_cases h3:n<64
   ·have HE:=Lib.hid (show aat n=be 1 n by simp[aat,h3])
    go_enter Tryz.func150,Tryz.ntmps150;go_wp2_with fail;go_ret2;rw[HE.out];exact ⟨_,rfl,Ow.lit w _ _ _ _ _ (Nat.le_refl _) rfl (by omega) (by simp[Lib.byteCells,be];omega),(Kp.refl _).alloc _⟩
   ·by_cases h4:n<16384
    ·have HE:=Lib.hid (show aat n=be 2 (n+16384) by simp[aat,h3,h4])
     go_enter Tryz.func150,Tryz.ntmps150;go_wp2_with fail;go_ret2;rw[HE.out];refine ⟨_,rfl,Ow.lit w _ _ _ _ _ (Nat.le_refl _) rfl (by omega) ?_,(Kp.refl _).alloc _⟩;simp[Lib.byteCells,be];omega
    ·have HE:=Lib.hid (show aat n=be 4 (n+2147483648) by simp[aat,h3,h4])
     have HN:=Lib.hid (adP (n:=(2147483648+n:Int)) (w:=4) ⟨by omega,by omega,by omega,by rw[show (256:Int) ^ (4:Int).toNat=4294967296 from by decide];omega⟩);go_enter Tryz.func150,Tryz.ntmps150;go_wp2_with (go_at_call 62;refine (ahX _ _ _ (by omega)).mono ?_;rintro e w' ⟨v,rfl,ho,hk⟩;obtain ⟨h1,h2⟩:=HN.out;rw[h1];rw[h2] at ho;clear h1 h2)
     go_ret2;rw[HE.out];refine ⟨_,rfl,?_,hk⟩;rw[show (2147483648+(n:Int)).toNat=n+2147483648 from by omega] at ho;exact ho
theorem ab1 (n:Nat):(aat n).length≤4:=by
 unfold aat;split
 ·rw[aak];omega
 ·split <;> (rw[aak];omega)
theorem akr (v:Value)(l:List UInt8)(w:World)(h:Rd w v l):
  Calls Tryz.prog 166 #[v] w fun e w'=>∃ u,e=.returned (.tuple #[u,.int .i64 (rowE l)])∧Ow 5 w' w.heap.size u (rowB l)∧Kp w w':=by
 have U:=arN;obtain ⟨a,c,rfl,hc,hm⟩:=h.shape;by_cases h1:1073741823<l.length
 ·have e0:lenE l.length=1:=if_pos (.inr (by omega))
  have e1:rowE l=1:=e0;have e2:rowB l=[]:=by simp[rowB,e1]
  rw[e1,e2];have E0:=Lib.hid e0;clear e0 e1 e2;go_enter Tryz.func166,Tryz.ntmps166;go_wp2_with (go_at_call 167;refine (akq _ _).mono ?_;rintro e w1 ⟨u,rfl,ho,hk⟩;rw[E0.out])
  go_ret2;exact ⟨_,rfl,Ow.nil _ _ _,hk⟩
 ·have e0:lenE l.length=0:=if_neg (by omega)
  have e1:rowE l=0:=e0;have e2:rowB l=aat l.length++l:=by simp[rowB,e1]
  have e3:lenB l.length=aat l.length:=by simp[lenB,e0]
  rw[e1,e2];have E0:=Lib.hid e0;have E3:=Lib.hid e3;clear e0 e1 e2 e3;go_enter Tryz.func166,Tryz.ntmps166;go_wp2_with (first
   | (go_at_call 167;refine (akq _ _).mono ?_;rintro e w1 ⟨u,rfl,ho,hk⟩;rw[E0.out];rw[E3.out] at ho)
   | (at_builtin;refine aae U rfl _ _ rfl w.heap.size _ _ rfl ho _ l rfl (h.kp hk) ?c1 hk.size ?_;rotate_right;intro v' w2 ho2 hg _))
  case c1=>have:=ab1 l.length;omega
  go_ret2;exact ⟨_,rfl,ho2,Kp.grown hk hg ho.own_ge⟩
theorem ahZ (v:Value)(l:List UInt8)(w:World)(h:Rd w v l):
  Calls Tryz.prog 111 #[v] w fun e w'=>∃ u,e=.returned (.tuple #[u,.int .i64 (rowE l)])∧Ow 5 w' w.heap.size u (rowB l)∧Kp w w':=by
 have U:=arN;obtain ⟨a,c,rfl,hc,hm⟩:=h.shape;by_cases h1:1073741823<l.length
 ·have e0:lenE l.length=1:=if_pos (.inr (by omega))
  have e1:rowE l=1:=e0;have e2:rowB l=[]:=by simp[rowB,e1]
  rw[e1,e2];have E0:=Lib.hid e0;clear e0 e1 e2;go_enter Tryz.func111,Tryz.ntmps111;go_wp2_with (go_at_call 150;refine (ahY _ _).mono ?_;rintro e w1 ⟨u,rfl,ho,hk⟩;rw[E0.out])
  go_ret2;exact ⟨_,rfl,Ow.nil _ _ _,hk⟩
 ·have e0:lenE l.length=0:=if_neg (by omega)
  have e1:rowE l=0:=e0;have e2:rowB l=aat l.length++l:=by simp[rowB,e1]
  have e3:lenB l.length=aat l.length:=by simp[lenB,e0]
  rw[e1,e2];have E0:=Lib.hid e0;have E3:=Lib.hid e3;clear e0 e1 e2 e3;go_enter Tryz.func111,Tryz.ntmps111;go_wp2_with (first
   | (go_at_call 150;refine (ahY _ _).mono ?_;rintro e w1 ⟨u,rfl,ho,hk⟩;rw[E0.out];rw[E3.out] at ho)
   | (at_builtin;refine aae U rfl _ _ rfl w.heap.size _ _ rfl ho _ l rfl (h.kp hk) ?c1 hk.size ?_;rotate_right;intro v' w2 ho2 hg _))
  case c1=>have:=ab1 l.length;omega
  go_ret2;exact ⟨_,rfl,ho2,Kp.grown hk hg ho.own_ge⟩
theorem agB (v:Value)(l:List UInt8)(w:World)(h:Rd w v l)(hl:l.length≤1099511627776):
  Calls Tryz.prog 109 #[v] w fun e w'=>∃ u,e=.returned u∧Ow 5 w' w.heap.size u l∧Kp w w':=by
 have U:=arN
 have q:∀ (w:World) (a:Option Addr) (n c n' c':Nat),(binOp .eql 24 (.slice a n c) (.slice none n' c')).run Tryz.prog w=.ok (.bool a.isNone) w:=fun w a n c n' c'=>Lib.run_eql_slice_nil w _ _ a n c n' c' Tryz.underlying24
 obtain ⟨a,c,rfl,hc,hm,hnil,hcell⟩:=id h
 cases a with
 | none=>
  have hc0:=hnil rfl
  have hl0:l=[]:=List.eq_nil_of_length_eq_zero (by omega)
  subst hl0 hc0
  go_enter Tryz.func109,Tryz.ntmps109
  go_wp2_with fail
  go_ret
  exact ⟨_,rfl,Ow.nil _ _ _,Kp.refl _⟩
 | some a=>
  go_enter Tryz.func109,Tryz.ntmps109
  go_wp2_with (at_builtin;refine aae U rfl _ _ rfl w.heap.size _ [] rfl (Ow.lit w _ _ 0 #[] [] (Nat.le_refl _) rfl (by omega) rfl) _ l rfl (h.kp ((Kp.refl _).alloc _)) ?c1 ?c2 ?_;rotate_right;intro v' w2 ho2 hg _)
  case c1=>simp;omega
  case c2=>simp
  go_ret
  exact ⟨_,rfl,by simpa using ho2,Kp.grown (v:=.slice (some ⟨w.heap.size,0,none⟩) 0 0) ((Kp.refl _).alloc _) hg (by intro k hk;simp[Value.ownBlock] at hk;omega)⟩
def expE (n:Int):Int:=if 0≤n∧n≤8160 then 0 else 1
def expR (k info:List UInt8)(n:Int):List UInt8:=if 0≤n∧n≤8160 then expL k info n.toNat else []
theorem afk {n:Nat}(k info:List UInt8)(h:(n:Int)≤8160):expE n=0∧expR k info n=expL k info n:=by
 have:0≤(n:Int)∧(n:Int)≤8160:=by omega
 simp[expE,expR,this]
theorem agC {n:Int}(k info:List UInt8)(h:n<0∨8160<n):expE n=1∧expR k info n=[]:=by
 have:¬(0≤n∧n≤8160):=by omega
 simp[expE,expR,this]
theorem anE (n:Nat)(vk vi:Value)(k info:List UInt8)(w0 w:World)(b1 b2 gK:Nat)(hk:Kp w0 w)(h1:One 24 w b1 (.slice (some ⟨gK,0,none⟩) 64 64))(h2:One 24 w b2 vi)(h3:By 5 w gK (keyB k))(h4:Rd w vi info)
  (hkl:k.length≤2000) (hil:info.length≤1800) (hn:n≤8160):
  Calls Tryz.prog 169 #[.int .i64 n,.func (.func 198) #[] #[.pointer (some ⟨b1,0,none⟩),.pointer (some ⟨b2,0,none⟩)]] w fun e w'=>(∃ v,e=.returned v∧Ow 5 w' w.heap.size v (expL k info n))∧Kp w w':=
 anA n 255 (expT k info) _ _ (fun j=>j<w.heap.size) w (abc k info) (by omega) (by omega) (enters_of Tryz.func198 (by kernel_rfl) rfl) (fun _ h=>h) (ahj b1 b2 gK vi k info w h1 h2 h3 h4 hkl hil)
theorem al0 (vk vi:Value)(k info:List UInt8)(n:Int)(w:World)(hk:Rd w vk k)(hi:Rd w vi info)(hkl:k.length≤2000)(hil:info.length≤1800):
  Calls Tryz.prog 137 #[vk,vi,.int .i64 n] w fun e w'=>(∃ v,e=.returned (.tuple #[v,.int .i64 (expE n)])∧Ow 5 w' w.heap.size v (expR k info n))∧Kp w w':=by
 obtain ⟨ai,ci,rfl,_,_⟩:=hi.shape;by_cases h1:n<0
 ·have hno:=agC k info (.inl h1)
  rw[hno.1,hno.2];have d1:decide (n<0)=true:=by simp[h1]
  go_enter Tryz.func137,Tryz.ntmps137;go_wp2_with fail;go_ret2;exact ⟨⟨_,rfl,Ow.nil _ _ _⟩,Kp.refl _⟩
 ·by_cases h2:8160<n
  ·have hno:=agC k info (.inr h2)
   rw[hno.1,hno.2];have d1:decide (n<0)=false:=by simp;omega
   have d2:decide (8160<n)=true:=by simp[h2]
   go_enter Tryz.func137,Tryz.ntmps137;go_wp2_with fail;go_ret2;exact ⟨⟨_,rfl,Ow.nil _ _ _⟩,Kp.refl _⟩
  ·obtain ⟨n,rfl⟩:=Int.eq_ofNat_of_zero_le (show 0≤n by omega)
   have hyes:=afk k info (show (n:Int)≤8160 by omega);rw[hyes.1,hyes.2];have d1:decide ((n:Int)<0)=false:=by simp
   have d2:decide (8160<(n:Int))=false:=by simp;omega
   clear hyes;go_enter Tryz.func137,Tryz.ntmps137;go_wp2_with fail;refine (ajw vk _ k info _ hk hkl ⟨_,_,_,rfl⟩).mono ?_;rintro e w1 ⟨⟨gK,rfl,o1,o2,o3⟩,k1⟩;go_wp2_with fail;refine (anE n vk _ k info w w1 _ _ gK k1 o1 o2 o3 (hi.kp k1) hkl hil (by omega)).mono ?_;rintro e w2 ⟨⟨v,rfl,o⟩,k2⟩;go_wp2_with fail;go_ret2;exact ⟨⟨_,rfl,o.mono k1.size⟩,k1.trans k2⟩
theorem ahr (x:Int)(w:World)(hx:-9223372036854775808≤x∧x≤9223372036854775807)(hT:Tab w):
  Calls Tryz.prog 119 #[.int .i64 x] w fun e w'=>e=.returned (.tuple #[.int .i64 (loV x),.int .i64 (hiV x)])∧Kp w w':=
 (agU x w hT).mono (by rintro _ _ ⟨rfl,rfl⟩;exact ⟨rfl,Kp.refl _⟩)
def ahs (t:List Nod):Nat:=if isTB ((lvs t:Nat):Int)=true∧2*lvs t=t.length+1 then lvs t else 0
theorem ad3 {t:List Nod}{K:Nat}(hK:K≤10)(h:t.length=2 ^ (K+1) - 1):ahs t=2 ^ K∧lvs t=2 ^ K:=by
 have h1:=aaj K;have h2:=aaC K;have e1:lvs t=2 ^ K:=by unfold lvs;omega
 refine ⟨?_,e1⟩;unfold ahs;rw[e1,if_pos ⟨aeD K hK,by omega⟩]
end Go.Proofs.YthmhklmkgkfcpaaGreatDoor
namespace Go.Proofs
open Go.Shelf
def Tryz.lays189_ren:Go.Shelf.Ren:=⟨fun | 189=>148 | 125=>183 | 257=>182 | 128=>221 | 129=>222 | 294=>212 | 295=>213 | 296=>214 | 297=>215 | 298=>216 | 299=>217 | 216=>218 | 300=>219 | 301=>220 | 328=>251 | 329=>252 | 330=>253 | 331=>254 | 332=>255 | 215=>256 | 343=>269 | n=>n,fun | 28=>34 | 3=>3 | 46=>205 | 0=>0 | 51=>247 | 53=>249 | 4=>4 | 183=>241 | 182=>240 | 131=>143 | 5=>5 | 9=>9 | 218=>270 | 222=>274 | 228=>288 | 229=>69 | n=>n,fun | n=>n⟩
theorem Tryz.lays189:Go.Proofs.Lays.n189 Tryz.prog Tryz.lays189_ren:={
 mixed:=by kernel_rfl
 f125:=Tryz.func183.trans (congrArg some (by kernel_rfl))
 f128:=Tryz.func221.trans (congrArg some (by kernel_rfl))
 f129:=Tryz.func222.trans (congrArg some (by kernel_rfl))
 f189:=Tryz.func148.trans (congrArg some (by kernel_rfl))
 f215:=Tryz.func256.trans (congrArg some (by kernel_rfl))
 f216:=Tryz.func218.trans (congrArg some (by kernel_rfl))
 f257:=Tryz.func182.trans (congrArg some (by kernel_rfl))
 f294:=Tryz.func212.trans (congrArg some (by kernel_rfl))
 f295:=Tryz.func213.trans (congrArg some (by kernel_rfl))
 f296:=Tryz.func214.trans (congrArg some (by kernel_rfl))
 f297:=Tryz.func215.trans (congrArg some (by kernel_rfl))
 f298:=Tryz.func216.trans (congrArg some (by kernel_rfl))
 f299:=Tryz.func217.trans (congrArg some (by kernel_rfl))
 f300:=Tryz.func219.trans (congrArg some (by kernel_rfl))
 f301:=Tryz.func220.trans (congrArg some (by kernel_rfl))
 f328:=Tryz.func251.trans (congrArg some (by kernel_rfl))
 f329:=Tryz.func252.trans (congrArg some (by kernel_rfl))
 f330:=Tryz.func253.trans (congrArg some (by kernel_rfl))
 f331:=Tryz.func254.trans (congrArg some (by kernel_rfl))
 f332:=Tryz.func255.trans (congrArg some (by kernel_rfl))
 f343:=Tryz.func269.trans (congrArg some (by kernel_rfl))
 t0:=Tryz.underlying0
 a0:=Tryz.isAgg0
 z0:=Tryz.sizeOf0
 v0:=Tryz.zeroValue0
 t3:=Tryz.underlying3
 a3:=Tryz.isAgg3
 z3:=Tryz.sizeOf3
 v3:=Tryz.zeroValue3
 t4:=Tryz.underlying4
 a4:=Tryz.isAgg4
 z4:=Tryz.sizeOf4
 v4:=Tryz.zeroValue4
 t5:=Tryz.underlying5
 a5:=Tryz.isAgg5
 z5:=Tryz.sizeOf5
 v5:=Tryz.zeroValue5
 t9:=Tryz.underlying9
 a9:=Tryz.isAgg9
 z9:=Tryz.sizeOf9
 v9:=Tryz.zeroValue9
 t28:=Tryz.underlying34
 a28:=Tryz.isAgg34
 z28:=Tryz.sizeOf34
 v28:=Tryz.zeroValue34
 t46:=Tryz.underlying205
 a46:=Tryz.isAgg205
 z46:=Tryz.sizeOf205
 v46:=Tryz.zeroValue205
 t51:=Tryz.underlying247
 a51:=Tryz.isAgg247
 z51:=Tryz.sizeOf247
 v51:=Tryz.zeroValue247
 t53:=Tryz.underlying249
 a53:=Tryz.isAgg249
 z53:=Tryz.sizeOf249
 v53:=Tryz.zeroValue249
 t131:=Tryz.underlying143
 a131:=Tryz.isAgg143
 z131:=Tryz.sizeOf143
 v131:=Tryz.zeroValue143
 t182:=Tryz.underlying240
 a182:=Tryz.isAgg240
 z182:=Tryz.sizeOf240
 v182:=Tryz.zeroValue240
 t183:=Tryz.underlying241
 a183:=Tryz.isAgg241
 z183:=Tryz.sizeOf241
 v183:=Tryz.zeroValue241
 t218:=Tryz.underlying270
 a218:=Tryz.isAgg270
 z218:=Tryz.sizeOf270
 v218:=Tryz.zeroValue270
 t222:=Tryz.underlying274
 a222:=Tryz.isAgg274
 z222:=Tryz.sizeOf274
 v222:=Tryz.zeroValue274
 t228:=Tryz.underlying288
 a228:=Tryz.isAgg288
 z228:=Tryz.sizeOf288
 v228:=Tryz.zeroValue288
 t229:=Tryz.underlying69
 a229:=Tryz.isAgg69
 z229:=Tryz.sizeOf69
 v229:=Tryz.zeroValue69 }
open Go.Sort Go.RowKit in
theorem Tryz.slices_Sort_int (blk off cap:Nat)(zs:List Int)(w:World)(hH:Holds (Value.int .i64) w blk off zs.toArray)(hblk:blk<w.heap.size)(hsz:zs.length<4611686018427387904):
 Calls Tryz.prog 148 #[.slice (some ⟨blk,off,none⟩) zs.length cap] w fun e w'=>
  e=.returned (.tuple #[])∧∃ n os,w'=grow (putRow (Value.int .i64) (Sort.ahead w n) blk off (zs.mergeSort fun x y=>decide (x≤y)).toArray) os:=Any.slices_Sort_int Tryz.lays189 blk off cap zs w hH hblk hsz
open Go.RowKit Go.Sort in
theorem Tryz.slices_Sort_int_none (p:Option Addr)(cap:Nat)(w:World):
 Calls Tryz.prog 148 #[.slice p 0 cap] w fun e w'=>e=.returned (.tuple #[])∧w'=w:=Any.slices_Sort_int_none Tryz.lays189 p cap w
def Tryz.laysnb115_ren:Go.Shelf.Ren:=⟨fun | 115=>52 | n=>n,fun | 37=>24 | 4=>4 | 9=>9 | 5=>5 | n=>n,fun | n=>n⟩
theorem Tryz.laysnb115:Go.Proofs.Lays.nb115 Tryz.prog Tryz.laysnb115_ren:={
 mixed:=by kernel_rfl
 f115:=Tryz.func52.trans (congrArg some (by kernel_rfl))
 t4:=Tryz.underlying4
 a4:=Tryz.isAgg4
 z4:=Tryz.sizeOf4
 v4:=Tryz.zeroValue4
 t9:=Tryz.underlying9
 a9:=Tryz.isAgg9
 z9:=Tryz.sizeOf9
 v9:=Tryz.zeroValue9
 t37:=Tryz.underlying24
 a37:=Tryz.isAgg24
 z37:=Tryz.sizeOf24
 v37:=Tryz.zeroValue24
 t5:=Tryz.underlying5
 a5:=Tryz.isAgg5
 z5:=Tryz.sizeOf5
 v5:=Tryz.zeroValue5 }
theorem Tryz.bytes_Equal_all (p1 p2:Option Addr)(n c m d:Nat)(xs ys:List Int)(w:World)(hx:xs.length=n)(hy:ys.length=m)(h1:Lib.BytesIn w p1 n xs)(h2:Lib.BytesIn w p2 m ys):
 Calls Tryz.prog 52 #[.slice p1 n c,.slice p2 m d] w fun e w'=>e=.returned (.bool (Lib.bytesOf xs==Lib.bytesOf ys))∧w'=w:=Any.bytes_Equal_all Tryz.laysnb115 p1 p2 n c m d xs ys w hx hy h1 h2
end Go.Proofs
