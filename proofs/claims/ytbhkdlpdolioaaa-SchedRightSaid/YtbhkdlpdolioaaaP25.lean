import Derived.Test.YtbhkdlpdolioaaaP2
import Derived.Test.YtbhkdlpdolioaaaRows
import Derived.WalkSpells
import Derived.Lib.Hide
import Derived.Outline
set_option linter.unusedVariables false
set_option linter.unusedSimpArgs false
set_option maxHeartbeats 8000000
set_option maxRecDepth 100000
namespace Go.Proofs.Ytbhkdlpdolioaaa
open Go.RowKit
theorem afK (z u:Value)(c:List Value)(m:Nat):(List.replicate (m+1) z++c).set m u=List.replicate m z++u :: c:=by
 rw[List.set_append_left _ _ (by simp),List.replicate_succ',List.set_append_right _ _ (by simp)];simp
theorem abi (n:Int)(k:Nat)(w:World)(h0:0≤n)(h1:1≤k)(h7:k≤7):
  Calls Try.prog 62 #[.int .i64 n,.int .i64 k] w fun e w'=>∃ v,e=.returned v∧Ow 5 w' w.heap.size v (be k n.toNat)∧Kp w w':=by
 obtain ⟨i0,hi,hz0,hz1,hz2⟩:=info_parts Try.info5;obtain ⟨n,rfl⟩:=Int.eq_ofNat_of_zero_le h0;rw[Int.toNat_natCast];go_enter Try.func62,Try.ntmps62;go_wp2_with (at_make;refine wpList_make_full _ rfl _ _ 22 rfl w.heap.size 5 i0 (.int .u8 0) 1 Try.underlying22 hi hz0 hz1 _ _ _ _ k rfl rfl rfl rfl ?b1 ?b2 ?b3 ?_)
 case b1=>rw[hz2];omega
 case b2=>unfold maxLen;omega
 case b3=>exact Nat.le_refl _
 intro w1 hown hgr;rw[toList_madeCells_one] at hown;generalize hB:w.heap.size=B at *;have HB:=Lib.hid hB;clear hB;have hk1:Below B w w1:=Below.grown (Below.refl B w) hgr (by rw[HB.out];exact Nat.le_refl _) (by simp);clear hgr;go_wp2;go_loopw[0,6] (fun x i wr=>∃ j:Nat,j≤k∧i=.int .i64 ((j:Int) - 1)∧x=.int .i64 ((n / 256 ^ (k - j):Nat):Int)∧wr.ownsRow B 5 1 (.slice (some ⟨B,0,none⟩) k k) k (List.replicate j (.int .u8 0)++Lib.byteCells (be (k - j) n))∧Below B w wr) (fun _ i _=>(intOf i+1).toNat)
 case atStart=>exact ⟨k,Nat.le_refl _,rfl,by simp,by simpa [be,Lib.byteCells] using hown,hk1⟩
 case round=>
  obtain ⟨j,hj,rfl,rfl,hown,hbel⟩:=hrel;cases j with
  | zero=>
   go_wp2;go_ret;refine ⟨_,rfl,?_,hbel.mono (by rw[HB.out];exact Nat.le_refl _)⟩;have hl:(be k n).length=k:=aae _ _;unfold Ow;rw[HB.out,hl];simpa using hown
  | succ j=>
   have hcell:wr.cell? ⟨B,j,none⟩=some (.int .u8 0):=by
    rw[hown.cellAt j (by omega),List.getElem?_append_left (by simp)];simp
   have hfr:=hown.frozenAt j;rw[show ((j+1:Nat):Int) - 1=j from by omega];generalize hX:n / 256 ^ (k - (j+1))=X at *;have HX:=Lib.hid hX;clear hX;have hown1:=Lib.hid hown;clear hown;go_wp2;go_roundw
   case rel=>
    obtain ⟨t,ht⟩:∃ t,t=k - (j+1):=⟨_,rfl⟩;have hx:=HX.out;have ho:=hown1.out;rw[← ht] at hx ho;have ht1:k - j=t+1:=by omega
    refine ⟨j,by omega,rfl,?_,?_,hbel.setCell (Nat.le_refl _) _⟩
    ·rw[ht1,Nat.pow_succ,← Nat.div_div_eq_div_mul,hx];rfl
    ·have h2:=(ho.stored j (.int .u8 ((X:Int) % 256))).1
     rw[afK] at h2;rw[ht1,abx,hx];have e:Value.int .u8 ((X:Int) % 256)=.int .u8 ((UInt8.ofNat X).toNat:Int):=by simp
     rw[e] at h2 ⊢;exact h2
   case measure=>simp[intOf]
theorem abb (x:Int)(w:World):
  Calls Try.prog 61 #[.int .i64 x] w fun e w'=>e=.returned (.bool (decide (1≤x∧x≤7)))∧w=w':=by
 by_cases h1:1≤x
 ·have e:decide (1≤x∧x≤7)=decide (x≤7):=by simp[h1]
  rw[e];go_enter Try.func61,Try.ntmps61;go_wp2;go_ret;exact ⟨rfl,rfl⟩
 ·have e:decide (1≤x∧x≤7)=false:=by simp[h1]
  go_enter Try.func61,Try.ntmps61;go_wp2;go_ret;exact ⟨by simp,rfl⟩
theorem pow8 (k:Nat):(2:Int) ^ (8*k)=((256 ^ k:Nat):Int):=by
 rw[Nat.pow_mul' 2 8 k |> fun _=>show (256:Nat) ^ k=2 ^ (8*k) from by rw[Nat.pow_mul]];push_cast;rfl
theorem acD (n k:Nat):(n:Int)<256 ^ (k:Int).toNat↔n<256 ^ k:=by
 rw[Int.toNat_natCast,← Int.ofNat_lt,Int.natCast_pow];rfl
theorem afi (n k:Nat)(h:n<256 ^ k):((n:Int) / 2 ^ (8*k) != 0)=false:=by
 rw[pow8,← Int.natCast_ediv,Nat.div_eq_of_lt h];rfl
theorem afL (n k:Nat)(h:¬n<256 ^ k):((n:Int) / 2 ^ (8*k) != 0)=true:=by
 rw[pow8,← Int.natCast_ediv,bne_iff_ne];have:0<n / 256 ^ k:=Nat.div_pos (by omega) (Nat.pos_of_ne_zero (by simp));omega
theorem abV (n k:Int)(w:World)(hn:-9223372036854775808≤n∧n≤9223372036854775807):
  Calls Try.prog 37 #[.int .i64 n,.int .i64 k] w fun e w'=>∃ v,e=.returned (.tuple #[v,.int .i64 (numE n k)])∧Ow 5 w' w.heap.size v (numB n k)∧Kp w w':=by
 by_cases h1:1≤k∧k≤7
 ·have d1:decide (1≤k∧k≤7)=true:=by simp[h1]
  obtain ⟨k1,k7⟩:=h1;by_cases h2:n<0
  ·obtain ⟨e1,e2⟩:=acj (n:=n) (w:=k) (by unfold abt;omega)
   rw[e1,e2];have d2:decide (n<0)=true:=by simp[h2]
   go_enter Try.func37,Try.ntmps37;go_wp2_with (go_at_call 61;refine (abb _ _).mono ?_;rintro e w' ⟨rfl,rfl⟩)
   go_ret2;exact ⟨_,rfl,Ow.nil _ _ _,Kp.refl _⟩
  ·obtain ⟨n,rfl⟩:=Int.eq_ofNat_of_zero_le (show 0≤n by omega)
   obtain ⟨k,rfl⟩:=Int.eq_ofNat_of_zero_le (show 0≤k by omega);have d2:decide ((n:Int)<0)=false:=by simp
   by_cases h3:n<256 ^ k
   ·obtain ⟨e1,e2⟩:=aa9 (n:=n) (w:=k) ⟨k1,k7,by omega,(acD n k).2 h3⟩
    have E1:=Lib.hid e1;have E2:=Lib.hid e2;have d3:=afi n k h3;clear e1 e2 h3;go_enter Try.func37,Try.ntmps37;go_wp2_with (first | (go_at_call 61;refine (abb _ _).mono ?_;rintro e w' ⟨rfl,rfl⟩) | (go_at_call 62;refine (abi _ _ _ (by omega) (by omega) (by omega)).mono ?_;rintro e w' ⟨v,rfl,ho,hk⟩))
    go_ret2;rw[E1.out,E2.out];exact ⟨_,rfl,by simpa using ho,hk⟩
   ·obtain ⟨e1,e2⟩:=acj (n:=n) (w:=k) (fun h=>h3 ((acD n k).1 h.2.2.2))
    rw[e1,e2];have d3:=afL n k h3;clear e1 e2 h3;go_enter Try.func37,Try.ntmps37;go_wp2_with (first | (go_at_call 61;refine (abb _ _).mono ?_;rintro e w' ⟨rfl,rfl⟩))
    go_ret2;exact ⟨_,rfl,Ow.nil _ _ _,Kp.refl _⟩
 ·have d1:decide (1≤k∧k≤7)=false:=by simp[h1]
  obtain ⟨e1,e2⟩:=acj (n:=n) (w:=k) (by unfold abt;omega);rw[e1,e2];go_enter Try.func37,Try.ntmps37;go_wp2_with (go_at_call 61;refine (abb _ _).mono ?_;rintro e w' ⟨rfl,rfl⟩)
  go_ret2;exact ⟨_,rfl,Ow.nil _ _ _,Kp.refl _⟩
end Go.Proofs.Ytbhkdlpdolioaaa
