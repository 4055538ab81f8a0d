import Derived.Test.YtbhkdlpdolioaaaP30
import Derived.Deep.QuietTactic
import Derived.BigQuiet
set_option linter.unusedVariables false
set_option linter.unusedSimpArgs false
set_option maxHeartbeats 8000000
set_option maxRecDepth 100000
namespace Go.Proofs.Ytbhkdlpdolioaaa
open Go.RowKit
theorem mark0 (n:Int)(w:World)(h:n<64):
  Calls Try.prog 81 #[.int .i64 n] w fun e w'=>e=.returned (.int .i64 0)∧w=w':=by
 go_enter Try.func81,Try.ntmps81;go_wp2;go_ret;exact ⟨rfl,rfl⟩
theorem mark1 (n:Int)(w:World)(h0:64≤n)(h:n<16384):
  Calls Try.prog 81 #[.int .i64 n] w fun e w'=>e=.returned (.int .i64 1)∧w=w':=by
 go_enter Try.func81,Try.ntmps81;go_wp2;go_ret;exact ⟨rfl,rfl⟩
theorem mark2 (n:Int)(w:World)(h0:16384≤n):
  Calls Try.prog 81 #[.int .i64 n] w fun e w'=>e=.returned (.int .i64 2)∧w=w':=by
 go_enter Try.func81,Try.ntmps81;go_wp2;go_ret;exact ⟨rfl,rfl⟩
theorem abW (x m:Int)(h0:0≤x)(h1:x<64)(hm:m=0∨m=64∨m=128):bits .or .u8 x m=x+m:=by
 have hc:bits .or .u8 x m=bits .or .u8 m x:=by simp only[bits,BitVec.or_comm]
 rw[hc,bits_join .u8 8 (by decide) wraps_u8 6 m x (by omega) (by omega) (by omega) h0 (by omega) (by omega)];omega
theorem afj (k n m:Nat)(h:n / 256 ^ k+m<256):be (k+1) (n+m*256 ^ k)=UInt8.ofNat (n / 256 ^ k+m) :: be k n:=by
 rw[abx,Nat.add_mul_div_right _ _ (Nat.pow_pos (by decide))];congr 1
 have h2:∀ k n m,be k (n+m*256 ^ k)=be k n:=by
  intro k;induction k with
  | zero=>intro n m;rfl
  | succ k ih=>
   intro n m;rw[be,be,show n+m*256 ^ (k+1)=n+256*(m*256 ^ k) from by rw[Nat.pow_succ,← Nat.mul_assoc,Nat.mul_comm 256],
    Nat.add_mul_div_left _ _ (by decide),ih]
   congr 2
   apply UInt8.toNat_inj.1;simp
 exact h2 k n m
theorem Ow.set0 {w:World}{B:Nat}{v:Value}{k' n':Nat}(h:Ow 5 w B v (be k' n'))(k n m:Nat)(hm:n / 256 ^ k+m<256)(hk:k'=k+1:=by rfl)(hn:n'=n:=by first | rfl | simp):
  ∃ g c,v=.slice (some ⟨g,0,none⟩) (k+1) c∧B≤g∧w.cell? ⟨g,0,none⟩=some (.int .u8 ((n / 256 ^ k:Nat):Int))∧w.frozen? ⟨g,0,none⟩=false ∧
   Ow 5 (w.setCell ⟨g,0,none⟩ (.int .u8 ((n / 256 ^ k+m:Nat):Int))) B v (be (k+1) (n+m*256 ^ k)):=by
 subst hk hn;rcases h.shape with ⟨_,h0⟩ | ⟨g,c,rfl,hg,_,hc,hcm⟩
 ·have:=congrArg List.length h0
  rw[aae] at this;simp at this
 ·have hl:(be (k+1) n').length=k+1:=aae _ _
  refine ⟨g,c,by rw[hl],hg,?_,h.frozenAt 0,?_⟩
  ·rw[h.cellAt 0 (by rw[hl];omega),abx]
   have:n' / 256 ^ k % 256=n' / 256 ^ k:=Nat.mod_eq_of_lt (by omega);simp[Lib.byteCells,this]
  ·have h2:=(h.stored 0 (.int .u8 ((n' / 256 ^ k+m:Nat):Int))).1
   unfold Ow;rw[aae,afj k n' m hm];rw[aae,abx] at h2;generalize n' / 256 ^ k=q at *;have:(q+m) % 256=q+m:=Nat.mod_eq_of_lt hm;have e:Lib.byteCells (UInt8.ofNat (q+m) :: be k n')=(Lib.byteCells (UInt8.ofNat q :: be k n')).set 0 (.int .u8 ((q+m:Nat):Int)):=by
    simp only[Lib.byteCells,List.map_cons,List.set_cons_zero,UInt8.toNat_ofNat',Nat.reducePow,this]
   rw[e,List.length_cons,aae];exact h2
theorem aaR (n k:Int)(w:World)(h0:0≤n)(h1:1≤k)(h7:k≤7):
  Calls Try.prog 62 #[.int .i64 n,.int .i64 k] w fun e w'=>∃ v,e=.returned v∧Ow 5 w' w.heap.size v (be k.toNat n.toNat)∧Kp w w':=by
 obtain ⟨k,rfl⟩:=Int.eq_ofNat_of_zero_le (show 0≤k by omega);exact abi n k w h0 (by omega) (by omega)
theorem acU (n:Int)(w:World):
  Calls Try.prog 63 #[.int .i64 n] w fun e w'=>∃ v,e=.returned (.tuple #[v,.int .i64 (lenE n)])∧Ow 5 w' w.heap.size v (lenB n)∧Kp w w':=by
 by_cases h1:n<0
 ·have d1:decide (n<0)=true:=by simp[h1]
  have e1:lenE n=1:=if_pos (.inl h1);have e2:lenB n=[]:=by simp[lenB,e1]
  rw[e1,e2];clear e1 e2;go_enter Try.func63,Try.ntmps63;go_wp2_with fail;go_ret2;exact ⟨_,rfl,Ow.nil _ _ _,Kp.refl _⟩
 ·have d1:decide (n<0)=false:=by simp[h1]
  by_cases h2:1073741823<n
  ·have d2:decide (1073741823<n)=true:=by simp[h2]
   have e1:lenE n=1:=if_pos (.inr h2);have e2:lenB n=[]:=by simp[lenB,e1]
   rw[e1,e2];clear e1 e2;go_enter Try.func63,Try.ntmps63;go_wp2_with fail;go_ret2;exact ⟨_,rfl,Ow.nil _ _ _,Kp.refl _⟩
  ·have d2:decide (1073741823<n)=false:=by simp[h2]
   obtain ⟨n,rfl⟩:=Int.eq_ofNat_of_zero_le (show 0≤n by omega);have e1:lenE n=0:=if_neg (by omega);have e2:lenB n=aac n:=by simp[lenB,e1]
   rw[e1,e2];clear e1 e2;by_cases h3:n<64
   ·have HE:Hid (aac n=be 1 (n+0*256 ^ 0)):=by show aac n=be 1 (n+0*256 ^ 0);simp[aac,h3]
    have hor:bits .or .u8 (n:Int) 0=n:=by rw[abW _ _ (by omega) (by omega) (by omega)];omega
    go_enter Try.func63,Try.ntmps63;go_wp2_with (first | (go_at_call 81;refine (mark0 _ _ (by omega)).mono ?_;rintro e w' ⟨rfl,rfl⟩) | (go_at_call 62;refine (aaR _ 1 _ (by omega) (by omega) (by omega)).mono ?_;rintro e w1 ⟨v,rfl,ho,hk⟩;obtain ⟨g,c,rfl,hg,hcell,hfr,ho2⟩:=ho.set0 0 n 0 (by simp;omega);simp at hcell))
    go_ret2;refine ⟨_,rfl,?_,Below.setCell hk hg _⟩;rw[HE.out];simpa using ho2
   ·by_cases h4:n<16384
    ·have HE:Hid (aac n=be 2 (n+64*256 ^ 1)):=by show aac n=be 2 (n+64*256 ^ 1);simp[aac,h3,h4]
     have hor:bits .or .u8 ((n:Int) / 256) 64=(n:Int) / 256+64:=abW _ _ (by omega) (by omega) (by omega);go_enter Try.func63,Try.ntmps63;go_wp2_with (first | (go_at_call 81;refine (mark1 _ _ (by omega) (by omega)).mono ?_;rintro e w' ⟨rfl,rfl⟩) | (go_at_call 62;refine (aaR _ 2 _ (by omega) (by omega) (by omega)).mono ?_;rintro e w1 ⟨v,rfl,ho,hk⟩;obtain ⟨g,c,rfl,hg,hcell,hfr,ho2⟩:=ho.set0 1 n 64 (by omega);simp at hcell))
     go_ret2;refine ⟨_,rfl,?_,Below.setCell hk hg _⟩;rw[HE.out];simpa using ho2
    ·have HE:Hid (aac n=be 4 (n+128*256 ^ 3)):=by show aac n=be 4 (n+128*256 ^ 3);simp[aac,h3,h4]
     have hor:bits .or .u8 ((n:Int) / 16777216) 128=(n:Int) / 16777216+128:=abW _ _ (by omega) (by omega) (by omega);go_enter Try.func63,Try.ntmps63;go_wp2_with (first | (go_at_call 81;refine (mark2 _ _ (by omega)).mono ?_;rintro e w' ⟨rfl,rfl⟩) | (go_at_call 62;refine (aaR _ 4 _ (by omega) (by omega) (by omega)).mono ?_;rintro e w1 ⟨v,rfl,ho,hk⟩;obtain ⟨g,c,rfl,hg,hcell,hfr,ho2⟩:=ho.set0 3 n 128 (by omega);simp at hcell))
     go_ret2;refine ⟨_,rfl,?_,Below.setCell hk hg _⟩;rw[HE.out];simpa using ho2
end Go.Proofs.Ytbhkdlpdolioaaa
