import Derived.Test.YtbhkdlpdolioaaaP2
import Derived.Test.YtbhkdlpdolioaaaP6
import Derived.Test.YtbhkdlpdolioaaaP24
import Derived.Test.YtbhkdlpdolioaaaP28
import Derived.Test.YtbhkdlpdolioaaaP29
import Derived.Test.YtbhkdlpdolioaaaP31
import Derived.Lib.ConvBytes
set_option linter.unusedVariables false
set_option linter.unusedSimpArgs false
set_option maxHeartbeats 8000000
set_option maxRecDepth 100000
namespace Go.Proofs.Ytbhkdlpdolioaaa
open Go.RowKit
theorem acG (n:Int)(w:World):
  Calls Try.prog 60 #[.int .i64 n] w fun e w'=>∃ v,e=.returned (.tuple #[v,.int .i64 (lenE n)])∧Ow 5 w' w.heap.size v (lenB n)∧Kp w w':=by
 by_cases h1:n<0
 ·have d1:decide (n<0)=true:=by simp[h1]
  have e1:lenE n=1:=if_pos (.inl h1);have e2:lenB n=[]:=by simp[lenB,e1]
  rw[e1,e2];clear e1 e2;go_enter Try.func60,Try.ntmps60;go_wp2_with fail;go_ret2;exact ⟨_,rfl,Ow.nil _ _ _,Kp.refl _⟩
 ·have d1:decide (n<0)=false:=by simp[h1]
  by_cases h2:1073741823<n
  ·have d2:decide (1073741823<n)=true:=by simp[h2]
   have e1:lenE n=1:=if_pos (.inr h2);have e2:lenB n=[]:=by simp[lenB,e1]
   rw[e1,e2];clear e1 e2;go_enter Try.func60,Try.ntmps60;go_wp2_with fail;go_ret2;exact ⟨_,rfl,Ow.nil _ _ _,Kp.refl _⟩
  ·have d2:decide (1073741823<n)=false:=by simp[h2]
   obtain ⟨n,rfl⟩:=Int.eq_ofNat_of_zero_le (show 0≤n by omega);have e1:lenE n=0:=if_neg (by omega);have e2:lenB n=aac n:=by simp[lenB,e1]
   rw[e1,e2];clear e1 e2;by_cases h3:n<64
   ·have HE:=Lib.hid (show aac n=be 1 n by simp[aac,h3])
    go_enter Try.func60,Try.ntmps60;go_wp2_with fail;go_ret2;rw[HE.out];exact ⟨_,rfl,Ow.lit w _ _ _ _ _ (Nat.le_refl _) rfl (by omega) (by simp[Lib.byteCells,be];omega),(Kp.refl _).alloc _⟩
   ·by_cases h4:n<16384
    ·have HE:=Lib.hid (show aac n=be 2 (n+16384) by simp[aac,h3,h4])
     go_enter Try.func60,Try.ntmps60;go_wp2_with fail;go_ret2;rw[HE.out];refine ⟨_,rfl,Ow.lit w _ _ _ _ _ (Nat.le_refl _) rfl (by omega) ?_,(Kp.refl _).alloc _⟩;simp[Lib.byteCells,be];omega
    ·have HE:=Lib.hid (show aac n=be 4 (n+2147483648) by simp[aac,h3,h4])
     have HN:=Lib.hid (aa9 (n:=(2147483648+n:Int)) (w:=4) ⟨by omega,by omega,by omega,by rw[show (256:Int) ^ (4:Int).toNat=4294967296 from by decide];omega⟩);go_enter Try.func60,Try.ntmps60;go_wp2_with (go_at_call 40;refine (acF _ _ _ (by omega)).mono ?_;rintro e w' ⟨v,rfl,ho,hk⟩;obtain ⟨h1,h2⟩:=HN.out;rw[h1];rw[h2] at ho;clear h1 h2)
     go_ret2;rw[HE.out];refine ⟨_,rfl,?_,hk⟩;rw[show (2147483648+(n:Int)).toNat=n+2147483648 from by omega] at ho;exact ho
theorem aaZ (n:Nat):(aac n).length≤4:=by
 unfold aac;split
 ·rw[aae];omega
 ·split <;> (rw[aae];omega)
theorem afP (v:Value)(l:List UInt8)(w:World)(h:Rd w v l):
  Calls Try.prog 82 #[v] w fun e w'=>∃ u,e=.returned (.tuple #[u,.int .i64 (rowE l)])∧Ow 5 w' w.heap.size u (rowB l)∧Kp w w':=by
 have U:=af8;obtain ⟨a,c,rfl,hc,hm⟩:=h.shape;by_cases h1:1073741823<l.length
 ·have e0:lenE l.length=1:=if_pos (.inr (by omega))
  have e1:rowE l=1:=e0;have e2:rowB l=[]:=by simp[rowB,e1]
  rw[e1,e2];have E0:=Lib.hid e0;clear e0 e1 e2;go_enter Try.func82,Try.ntmps82;go_wp2_with (go_at_call 63;refine (acU _ _).mono ?_;rintro e w1 ⟨u,rfl,ho,hk⟩;rw[E0.out])
  go_ret2;exact ⟨_,rfl,Ow.nil _ _ _,hk⟩
 ·have e0:lenE l.length=0:=if_neg (by omega)
  have e1:rowE l=0:=e0;have e2:rowB l=aac l.length++l:=by simp[rowB,e1]
  have e3:lenB l.length=aac l.length:=by simp[lenB,e0]
  rw[e1,e2];have E0:=Lib.hid e0;have E3:=Lib.hid e3;clear e0 e1 e2 e3;go_enter Try.func82,Try.ntmps82;go_wp2_with (first
   | (go_at_call 63;refine (acU _ _).mono ?_;rintro e w1 ⟨u,rfl,ho,hk⟩;rw[E0.out];rw[E3.out] at ho)
   | (at_builtin;refine aaa U rfl _ _ rfl w.heap.size _ _ rfl ho _ l rfl (h.kp hk) ?c1 hk.size ?_;rotate_right;intro v' w2 ho2 hg _))
  case c1=>have:=aaZ l.length;omega
  go_ret2;exact ⟨_,rfl,ho2,Kp.grown hk hg ho.own_ge⟩
theorem acH (v:Value)(l:List UInt8)(w:World)(h:Rd w v l):
  Calls Try.prog 35 #[v] w fun e w'=>∃ u,e=.returned (.tuple #[u,.int .i64 (rowE l)])∧Ow 5 w' w.heap.size u (rowB l)∧Kp w w':=by
 have U:=af8;obtain ⟨a,c,rfl,hc,hm⟩:=h.shape;by_cases h1:1073741823<l.length
 ·have e0:lenE l.length=1:=if_pos (.inr (by omega))
  have e1:rowE l=1:=e0;have e2:rowB l=[]:=by simp[rowB,e1]
  rw[e1,e2];have E0:=Lib.hid e0;clear e0 e1 e2;go_enter Try.func35,Try.ntmps35;go_wp2_with (go_at_call 60;refine (acG _ _).mono ?_;rintro e w1 ⟨u,rfl,ho,hk⟩;rw[E0.out])
  go_ret2;exact ⟨_,rfl,Ow.nil _ _ _,hk⟩
 ·have e0:lenE l.length=0:=if_neg (by omega)
  have e1:rowE l=0:=e0;have e2:rowB l=aac l.length++l:=by simp[rowB,e1]
  have e3:lenB l.length=aac l.length:=by simp[lenB,e0]
  rw[e1,e2];have E0:=Lib.hid e0;have E3:=Lib.hid e3;clear e0 e1 e2 e3;go_enter Try.func35,Try.ntmps35;go_wp2_with (first
   | (go_at_call 60;refine (acG _ _).mono ?_;rintro e w1 ⟨u,rfl,ho,hk⟩;rw[E0.out];rw[E3.out] at ho)
   | (at_builtin;refine aaa U rfl _ _ rfl w.heap.size _ _ rfl ho _ l rfl (h.kp hk) ?c1 hk.size ?_;rotate_right;intro v' w2 ho2 hg _))
  case c1=>have:=aaZ l.length;omega
  go_ret2;exact ⟨_,rfl,ho2,Kp.grown hk hg ho.own_ge⟩
def expE (n:Int):Int:=if 0≤n∧n≤8160 then 0 else 1
def expR (k info:List UInt8)(n:Int):List UInt8:=if 0≤n∧n≤8160 then expL k info n.toNat else []
theorem adD {n:Nat}(k info:List UInt8)(h:(n:Int)≤8160):expE n=0∧expR k info n=expL k info n:=by
 have:0≤(n:Int)∧(n:Int)≤8160:=by omega
 simp[expE,expR,this]
theorem aco {n:Int}(k info:List UInt8)(h:n<0∨8160<n):expE n=1∧expR k info n=[]:=by
 have:¬(0≤n∧n≤8160):=by omega
 simp[expE,expR,this]
theorem acp (vs vk:Value)(s k:List UInt8)(w:World)(hs:Rd w vs s)(hk:Rd w vk k)(hsl:s.length≤2000)(hkl:k.length≤1900):
  Calls Try.prog 47 #[vs,vk] w fun e w'=>(∃ v,e=.returned v∧Ow 5 w' w.heap.size v (macB s k))∧Kp w w':=by
 go_enter Try.func47,Try.ntmps47;go_wp2_with fail;refine (aeK vs vk s k _ hs hk hsl hkl).mono ?_;rintro e w1 ⟨⟨a,c,rfl,o1⟩,k1⟩;go_wp2_with fail;go_ret;exact ⟨⟨_,rfl,o1⟩,k1⟩
theorem aeL (n:Nat)(vk vi:Value)(k info:List UInt8)(w0 w:World)(b1 b2 gK:Nat)(hk:Kp w0 w)(h1:One 22 w b1 (.slice (some ⟨gK,0,none⟩) 64 64))(h2:One 22 w b2 vi)(h3:By 5 w gK (keyB k))(h4:Rd w vi info)
  (hkl:k.length≤2000) (hil:info.length≤1800) (hn:n≤8160):
  Calls Try.prog 83 #[.int .i64 n,.func (.func 93) #[] #[.pointer (some ⟨b1,0,none⟩),.pointer (some ⟨b2,0,none⟩)]] w fun e w'=>(∃ v,e=.returned v∧Ow 5 w' w.heap.size v (expL k info n))∧Kp w w':=
 aeG n 255 (expT k info) _ _ (fun j=>j<w.heap.size) w (aaB k info) (by omega) (by omega) (enters_of Try.func93 (by kernel_rfl) rfl) (fun _ h=>h) (acu b1 b2 gK vi k info w h1 h2 h3 h4 hkl hil)
theorem aeb (vk vi:Value)(k info:List UInt8)(n:Int)(w:World)(hk:Rd w vk k)(hi:Rd w vi info)(hkl:k.length≤2000)(hil:info.length≤1800):
  Calls Try.prog 67 #[vk,vi,.int .i64 n] w fun e w'=>(∃ v,e=.returned (.tuple #[v,.int .i64 (expE n)])∧Ow 5 w' w.heap.size v (expR k info n))∧Kp w w':=by
 obtain ⟨ai,ci,rfl,_,_⟩:=hi.shape;by_cases h1:n<0
 ·have hno:=aco k info (.inl h1)
  rw[hno.1,hno.2];have d1:decide (n<0)=true:=by simp[h1]
  go_enter Try.func67,Try.ntmps67;go_wp2_with fail;go_ret2;exact ⟨⟨_,rfl,Ow.nil _ _ _⟩,Kp.refl _⟩
 ·by_cases h2:8160<n
  ·have hno:=aco k info (.inr h2)
   rw[hno.1,hno.2];have d1:decide (n<0)=false:=by simp;omega
   have d2:decide (8160<n)=true:=by simp[h2]
   go_enter Try.func67,Try.ntmps67;go_wp2_with fail;go_ret2;exact ⟨⟨_,rfl,Ow.nil _ _ _⟩,Kp.refl _⟩
  ·obtain ⟨n,rfl⟩:=Int.eq_ofNat_of_zero_le (show 0≤n by omega)
   have hyes:=adD k info (show (n:Int)≤8160 by omega);rw[hyes.1,hyes.2];have d1:decide ((n:Int)<0)=false:=by simp
   have d2:decide (8160<(n:Int))=false:=by simp;omega
   clear hyes;go_enter Try.func67,Try.ntmps67;go_wp2_with fail;refine (ado vk _ k info _ hk hkl ⟨_,_,_,rfl⟩).mono ?_;rintro e w1 ⟨⟨gK,rfl,o1,o2,o3⟩,k1⟩;go_wp2_with fail;refine (aeL n vk _ k info w w1 _ _ gK k1 o1 o2 o3 (hi.kp k1) hkl hil (by omega)).mono ?_;rintro e w2 ⟨⟨v,rfl,o⟩,k2⟩;go_wp2_with fail;go_ret2;exact ⟨⟨_,rfl,o.mono k1.size⟩,k1.trans k2⟩
end Go.Proofs.Ytbhkdlpdolioaaa
