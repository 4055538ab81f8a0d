import Derived.Test.YtbhkdlpdolioaaaP7
import Derived.Test.YtbhkdlpdolioaaaProg
import Derived.IntWalk
import Derived.Lib.Hide
import Derived.BigQuiet
import Derived.Deep.QuietTactic
set_option linter.unusedVariables false
set_option linter.unusedSimpArgs false
set_option maxHeartbeats 8000000
set_option maxRecDepth 100000
namespace Go.Proofs.Ytbhkdlpdolioaaa
open Go.RowKit
attribute [local go_sem] acb aeX aep aeY u_or aeq ac3
theorem and31 (x:Int)(h₀:0≤x)(h₁:x<2 ^ 64):bits .and .u64 x 31=x % 32:=
 bits_mask .u64 64 (by decide) (fun n h0 h1=>by simp[IntKind.wrap,IntKind.bits,IntKind.signed];omega) 5 (by decide) x h₀ h₁
theorem afX (i:Nat)(h0:0<i)(h1:i<32):bits .and .u64 (IntKind.u64.wrap (-(i:Int))) 31=32 - (i:Int):=by
 have hw:IntKind.u64.wrap (-(i:Int))=18446744073709551616 - i:=by
  simp[IntKind.wrap,IntKind.bits,IntKind.signed];omega
 rw[hw,and31 _ (by omega) (by omega)];omega
theorem acx (i:Nat)(x:UInt32)(w:World)(h0:0<i)(h1:i<32):
  Calls Try.prog 98 #[.int .u32 (af9 x),.int .i64 (-(i:Int))] w fun e w'=>e=.returned (.int .u32 (af9 (rotr i x)))∧w=w':=by
 have ht:=afX i h0 h1;have e1:(32 - (i:Int)).toNat=32 - i:=by omega
 have e2:IntKind.u64.wrap (32 - (32 - (i:Int)))=i:=by simp[IntKind.wrap,IntKind.bits,IntKind.signed];omega
 go_enter Try.func98,Try.ntmps98;go_wp2;go_ret;exact ⟨by rw[aeZ];rfl,rfl⟩
theorem acy (i j k:Nat)(x:UInt32)(w:World)(hi:0<i∧i<32)(hj:0<j∧j<32)(hk:0<k∧k<32):
  Calls Try.prog 89 #[.int .u32 (af9 x),.int .i64 i,.int .i64 j,.int .i64 k] w fun e w'=>e=.returned (.int .u32 (af9 (big i j k x)))∧w=w':=by
 have n:∀ i:Nat,i<32→IntKind.i64.wrap (-(i:Int)) = -i:=fun i h=>by rw[IntKind.wrap_i64];omega
 have ni:=n i hi.2;have nj:=n j hj.2;have nk:=n k hk.2;obtain ⟨hi0,hi1⟩:=hi;obtain ⟨hj0,hj1⟩:=hj;obtain ⟨hk0,hk1⟩:=hk;clear n;go_enter Try.func89,Try.ntmps89;go_wp2_with ((go_at_call 98;refine (acx _ _ _ (by assumption) (by assumption)).mono ?_;rintro e w' ⟨rfl,rfl⟩))
 go_ret;exact ⟨rfl,rfl⟩
theorem ae3 (x:UInt32)(w:World):Calls Try.prog 89 #[.int .u32 (af9 x),.int .i64 6,.int .i64 11,.int .i64 25] w fun e w'=>e=.returned (.int .u32 (af9 (big 6 11 25 x)))∧w=w':=
 acy 6 11 25 x w (by decide) (by decide) (by decide)
theorem adS (x:UInt32)(w:World):Calls Try.prog 89 #[.int .u32 (af9 x),.int .i64 2,.int .i64 13,.int .i64 22] w fun e w'=>e=.returned (.int .u32 (af9 (big 2 13 22 x)))∧w=w':=
 acy 2 13 22 x w (by decide) (by decide) (by decide)
theorem ace (i j k:Nat)(x:UInt32)(w:World)(hi:0<i∧i<32)(hj:0<j∧j<32)(hk:0<k∧k<32):
  Calls Try.prog 97 #[.int .u32 (af9 x),.int .i64 i,.int .i64 j,.int .i64 k] w fun e w'=>e=.returned (.int .u32 (af9 (acO i j k x)))∧∃ n,w'=w.drewN n:=by
 have n:∀ i:Nat,i<32→IntKind.i64.wrap (-(i:Int)) = -i:=fun i h=>by rw[IntKind.wrap_i64];omega
 have ni:=n i hi.2;have nj:=n j hj.2;have hs:=ac3 k x;obtain ⟨hi0,hi1⟩:=hi;obtain ⟨hj0,hj1⟩:=hj;obtain ⟨hk0,hk1⟩:=hk;clear n;go_enter Try.func97,Try.ntmps97;go_wp2;go_quiet ((go_at_call 98;exact abP (acx _ _ _ (by assumption) (by assumption))))
 go_wp2;go_ret;exact ⟨rfl,_,rfl⟩
theorem aev (x:UInt32)(w:World):Calls Try.prog 97 #[.int .u32 (af9 x),.int .i64 17,.int .i64 19,.int .i64 10] w fun e w'=>e=.returned (.int .u32 (af9 (acO 17 19 10 x)))∧∃ n,w'=w.drewN n:=
 ace 17 19 10 x w (by decide) (by decide) (by decide)
theorem aew (x:UInt32)(w:World):Calls Try.prog 97 #[.int .u32 (af9 x),.int .i64 7,.int .i64 18,.int .i64 3] w fun e w'=>e=.returned (.int .u32 (af9 (acO 7 18 3 x)))∧∃ n,w'=w.drewN n:=
 ace 7 18 3 x w (by decide) (by decide) (by decide)
theorem ae4 (i:Nat)(x:UInt32)(w:World)(h0:0<i)(h1:i<32):
  Calls Try.prog 80 #[.int .u32 (af9 x),.int .u32 i] w fun e w'=>e=.returned (.int .u32 (af9 (rotr i x)))∧w=w':=by
 have e2:IntKind.u32.wrap (32 - (i:Int))=32 - i:=by rw[IntKind.wrap_u32];omega
 have e1:(32 - (i:Int)).toNat=32 - i:=by omega
 have hs:=ac3 i x;have hl:=aeq (32 - i) x;go_enter Try.func80,Try.ntmps80;go_wp2;go_ret;exact ⟨rfl,rfl⟩
def ub (b:UInt8):Int:=(b.toNat:Int)
theorem aaL (b:UInt8):0≤ub b:=Int.natCast_nonneg _
theorem ac6 (b:UInt8):ub b<256:=by unfold ub;have:=b.toNat_lt;omega
theorem acz (a b c d:UInt8):ub a*16777216+ub b*65536+ub c*256+ub d=af9 (abl a b c d):=by
 unfold abl ub;have:=a.toNat_lt;have:=b.toNat_lt;have:=c.toNat_lt;have:=d.toNat_lt;rw[u_of _ (by omega)];omega
theorem Rd.row {w:World}{a:Option Addr}{n c:Nat}{l:List UInt8}(h:Rd w (.slice a n c) l)(hn:0<n):
 ∃ b off,a=some ⟨b,off,none⟩∧b<w.heap.size∧∀ i,i<n→w.cell? ⟨b,off+i,none⟩=some (.int .u8 (ub (l.getD i 0))):=h.at 0 hn
theorem ae5 (v:Value)(l:List UInt8)(at':Nat)(w:World)(h:Rd w v l)(hl:at'+4≤l.length):
  Calls Try.prog 79 #[v,.int .i64 at'] w fun e w'=>e=.returned (.int .u32 (af9 (abl (l.getD at' 0) (l.getD (at'+1) 0) (l.getD (at'+2) 0) (l.getD (at'+3) 0))))∧∃ n,w'=w.drewN n:=by
 obtain ⟨a,c,rfl,h1,h2⟩:=h.shape;unfold maxLen at h2;obtain ⟨b,off,rfl,hb,hc⟩:=h.row (by omega);have c0:=hc at' (by omega);have c1:=hc (at'+1) (by omega);have c2:=hc (at'+2) (by omega);have c3:=hc (at'+3) (by omega);have hs:=acz (l.getD at' 0) (l.getD (at'+1) 0) (l.getD (at'+2) 0) (l.getD (at'+3) 0);generalize l.getD at' 0=x0 at *;generalize l.getD (at'+1) 0=x1 at *;generalize l.getD (at'+2) 0=x2 at *;generalize l.getD (at'+3) 0=x3 at *;have b0:=aaL x0;have b1:=aaL x1;have b2:=aaL x2;have b3:=aaL x3;have d0:=ac6 x0;have d1:=ac6 x1;have d2:=ac6 x2;have d3:=ac6 x3;clear hc;have i0:(at':Int)<(l.length:Int):=by omega
 have i1:(at':Int)+1<(l.length:Int):=by omega
 have i2:(at':Int)+2<(l.length:Int):=by omega
 have i3:(at':Int)+3<(l.length:Int):=by omega
 have n1:(0:Int)≤(at':Int)+1:=by omega
 have n2:(0:Int)≤(at':Int)+2:=by omega
 have n3:(0:Int)≤(at':Int)+3:=by omega
 have k1:IntKind.i64.wrap ((at':Int)+1)=(at':Int)+1:=IntWalk.i64_in _ (by omega);have k2:IntKind.i64.wrap ((at':Int)+2)=(at':Int)+2:=IntWalk.i64_in _ (by omega);have k3:IntKind.i64.wrap ((at':Int)+3)=(at':Int)+3:=IntWalk.i64_in _ (by omega);have t1:((at':Int)+1).toNat=at'+1:=by omega
 have af7:((at':Int)+2).toNat=at'+2:=by omega
 have t3:((at':Int)+3).toNat=at'+3:=by omega
 have W:∀ x:Int,0≤x→x<4294967296→IntKind.u32.wrap x=x:=fun x h0 h1=>by rw[IntKind.wrap_u32];omega
 have v0:=W (ub x0) (by omega) (by omega);have v1:=W (ub x1) (by omega) (by omega);have v2:=W (ub x2) (by omega) (by omega);have v3:=W (ub x3) (by omega) (by omega);have m0:=W (ub x0*16777216) (by omega) (by omega);have m1:=W (ub x1*65536) (by omega) (by omega);have m2:=W (ub x2*256) (by omega) (by omega);have s1:=W (ub x0*16777216+ub x1*65536) (by omega) (by omega);have s2:=W (ub x0*16777216+ub x1*65536+ub x2*256) (by omega) (by omega);have s3:=W (ub x0*16777216+ub x1*65536+ub x2*256+ub x3) (by omega) (by omega);have H:=Lib.hid hs;clear W hs b0 b1 b2 b3 d0 d1 d2 d3;go_enter Try.func79,Try.ntmps79;go_wp2;go_quiet (fail)
 go_wp2;go_ret;exact ⟨by rw[← H.out];rfl,_,rfl⟩
theorem acP (n:Int)(x:UInt32)(w:World)(h0:0<n)(h1:n<32):
  Calls Try.prog 80 #[.int .u32 (af9 x),.int .u32 n] w fun e w'=>e=.returned (.int .u32 (af9 (rotr n.toNat x)))∧w=w':=by
 obtain ⟨i,rfl⟩:=Int.eq_ofNat_of_zero_le (Int.le_of_lt h0);rw[Int.toNat_natCast];exact ae4 i x w (by omega) (by omega)
theorem ae6 (x:Int)(v:Value)(l:List UInt8)(at':Nat)(w:World)(h:Rd w v l)(hl:at'+4≤l.length)(hx:x=at'):
  Calls Try.prog 79 #[v,.int .i64 x] w fun e w'=>e=.returned (.int .u32 (af9 (abl (l.getD at' 0) (l.getD (at'+1) 0) (l.getD (at'+2) 0) (l.getD (at'+3) 0))))∧∃ n,w'=w.drewN n:=by
 subst hx;exact ae5 v l at' w h hl
end Go.Proofs.Ytbhkdlpdolioaaa
