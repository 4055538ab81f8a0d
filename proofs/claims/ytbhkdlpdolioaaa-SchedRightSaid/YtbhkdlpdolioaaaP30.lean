import Derived.Test.YtbhkdlpdolioaaaP25
set_option linter.unusedVariables false
set_option linter.unusedSimpArgs false
set_option maxHeartbeats 8000000
set_option maxRecDepth 100000
namespace Go.Proofs.Ytbhkdlpdolioaaa
open Go.RowKit
theorem acm (k:Int)(w:World)(h:k≤7):
  Calls Try.prog 65 #[.int .i64 k] w fun e w'=>e=.returned (.int .i64 (pw k.toNat))∧w=w':=by
 by_cases h0:0≤k
 ·obtain ⟨k,rfl⟩:=Int.eq_ofNat_of_zero_le h0
  rw[Int.toNat_natCast];go_enter Try.func65,Try.ntmps65;go_wp2;go_loop [3,4] (fun n i=>∃ j:Nat,j≤k∧i=.int .i64 j∧n=.int .i64 (pw j)) (fun _ i=>k - (intOf i).toNat)
  case atStart=>exact ⟨0,Nat.zero_le _,rfl,rfl⟩
  case round=>
   obtain ⟨j,hj,rfl,rfl⟩:=hrel;by_cases hlt:j<k
   ·have hb:=afU j (by omega)
    have hs:=Lib.hid (aem j);go_wp2;go_round
    case rel=>exact ⟨j+1,by omega,by go_num,by rw[hs.out];go_num⟩
    case measure=>simp[intOf];omega
   ·go_wp2
    go_ret;have:j=k:=by omega
    subst this;exact ⟨rfl,rfl⟩
 ·have e:k.toNat=0:=by omega
  rw[e];go_enter Try.func65,Try.ntmps65;go_wp2;refine wp_loop_rounds 1 ?_;rw[rounds_succ];go_wp2;go_ret;exact ⟨rfl,rfl⟩
theorem afO (k t n:Nat)(h:t<k):be (k - t) (n / pw t)=be (k - (t+1)) (n / pw (t+1))++[UInt8.ofNat (n / pw t)]:=by
 obtain ⟨m,rfl⟩:∃ m,k=t+1+m:=⟨k - (t+1),by omega⟩;rw[show t+1+m - t=m+1 from by omega,show t+1+m - (t+1)=m from by omega,be,aem,Nat.mul_comm 256,← Nat.div_div_eq_div_mul]
theorem acF (n k:Int)(w:World)(hn:-9223372036854775808≤n∧n≤9223372036854775807):
  Calls Try.prog 40 #[.int .i64 n,.int .i64 k] w fun e w'=>∃ v,e=.returned (.tuple #[v,.int .i64 (numE n k)])∧Ow 5 w' w.heap.size v (numB n k)∧Kp w w':=by
 have U:=af8;by_cases h1:abt n k
 ·obtain ⟨e1,e2⟩:=aa9 h1
  have E1:=Lib.hid e1;have E2:=Lib.hid e2;clear e1 e2;obtain ⟨k1,k7,n0,hlt⟩:=h1;obtain ⟨n,rfl⟩:=Int.eq_ofNat_of_zero_le n0;obtain ⟨k,rfl⟩:=Int.eq_ofNat_of_zero_le (show 0≤k by omega);have hlt':n<pw k:=(acD n k).1 hlt;clear hlt;have hdk:decide (pw k≤n)=false:=by simp;omega
  generalize hB:w.heap.size=B at *;have HB:=Lib.hid hB;clear hB;go_enter Try.func40,Try.ntmps40;go_wp2_with (go_at_call 65;refine (acm _ _ k7).mono ?_;rintro e w' ⟨rfl,rfl⟩;rw[Int.toNat_natCast])
  go_loopw[6,7] (fun v i wr=>∃ t:Nat,t≤k∧i=.int .i64 ((t:Int) - 1)∧Ow 5 wr B v (be (k - t) (n / pw t))∧Below B w wr) (fun _ i _=>(intOf i+1).toNat)
  case atStart=>exact ⟨k,Nat.le_refl _,rfl,by rw[Nat.sub_self];exact Ow.nil _ _ _,Below.refl _ _⟩
  case round=>
   obtain ⟨t,ht,rfl,hown,hbel⟩:=hrel;cases t with
   | zero=>
    go_wp2_with fail;go_ret2;rw[E1.out,E2.out];exact ⟨_,rfl,by simpa [pw] using hown,hbel.mono (by rw[HB.out];exact Nat.le_refl _)⟩
   | succ t=>
    rw[show ((t+1:Nat):Int) - 1=t from by omega];have hp:=afT t;have hb:=pw_le t (by omega);have hB:=hbel.size;have hBw:B≤wr.heap.size:=by rw[← HB.out];exact hB
    obtain ⟨q,hq⟩:∃ q:Nat,q=n / pw t:=⟨_,rfl⟩;have hqn:q≤n:=by rw[hq];exact Nat.div_le_self _ _
    have hd:(n:Int) / (pw t:Int)=(q:Int):=by rw[hq];rfl
    have HQ:=Lib.hid hq;clear hq;go_wp2_with (first
     | (go_at_call 65;refine (acm _ _ (by omega)).mono ?_;rintro e w' ⟨rfl,rfl⟩;rw[Int.toNat_natCast])
     | (at_builtin;refine aaa U rfl _ _ rfl B _ _ rfl (hown.kp ((Kp.refl _).alloc _)) _ [UInt8.ofNat q] rfl ?c1 ?c2 ?c3 ?_))
    case c1=>exact Rd.box _ _ _ _ (by simp)
    case c2=>rw[aae];simp;omega
    case c3=>simp;omega
    intro v' w1 hown1 hg _;have hb1:Below B w w1:=Below.grown' (hbel.alloc hBw _) hg (by simp;omega) (hown.kp ((Kp.refl _).alloc _));clear hg hown;go_wp2;go_roundw
    case rel=>exact ⟨t,by omega,rfl,by rw[afO k t n (by omega),← HQ.out];exact hown1,hb1⟩
    case measure=>simp[intOf]
 ·obtain ⟨e1,e2⟩:=acj h1
  rw[e1,e2];clear e1 e2;by_cases h2:k<1
  ·have d2:decide (k<1)=true:=by simp[h2]
   go_enter Try.func40,Try.ntmps40;go_wp2_with fail;go_ret2;exact ⟨_,rfl,Ow.nil _ _ _,Kp.refl _⟩
  ·have d2:decide (k<1)=false:=by simp[h2]
   by_cases h3:7<k
   ·have d3:decide (7<k)=true:=by simp[h3]
    go_enter Try.func40,Try.ntmps40;go_wp2_with fail;go_ret2;exact ⟨_,rfl,Ow.nil _ _ _,Kp.refl _⟩
   ·have d3:decide (7<k)=false:=by simp[h3]
    by_cases h4:n<0
    ·have d4:decide (n<0)=true:=by simp[h4]
     go_enter Try.func40,Try.ntmps40;go_wp2_with fail;go_ret2;exact ⟨_,rfl,Ow.nil _ _ _,Kp.refl _⟩
    ·have d4:decide (n<0)=false:=by simp[h4]
     obtain ⟨n,rfl⟩:=Int.eq_ofNat_of_zero_le (show 0≤n by omega);obtain ⟨k,rfl⟩:=Int.eq_ofNat_of_zero_le (show 0≤k by omega);have hge:pw k≤n:=by
      rcases Nat.lt_or_ge n (pw k) with h | h
      ·exact absurd ⟨by omega,by omega,by omega,(acD n k).2 h⟩ h1
      ·exact h
     have d5:decide (pw k≤n)=true:=by simp[hge]
     clear h1;go_enter Try.func40,Try.ntmps40;go_wp2_with (go_at_call 65;refine (acm _ _ (by omega)).mono ?_;rintro e w' ⟨rfl,rfl⟩;rw[Int.toNat_natCast])
     go_ret2;exact ⟨_,rfl,Ow.nil _ _ _,Kp.refl _⟩
end Go.Proofs.Ytbhkdlpdolioaaa
