import Derived.Test.YthmhklmkgkfcpaaGreatDoorT1
import Derived.Test.YthmhklmkgkfcpaaGreatDoorT4
import Derived.Test.YthmhklmkgkfcpaaGreatDoorT13
import Derived.Test.YthmhklmkgkfcpaaGreatDoorT14
import Derived.Test.YthmhklmkgkfcpaaGreatDoorT16
import Derived.Test.YthmhklmkgkfcpaaGreatDoorT18
import Derived.Test.YthmhklmkgkfcpaaGreatDoorT21
import Derived.Test.YthmhklmkgkfcpaaGreatDoorT22
import Derived.Lib.ConvBytes
import Derived.Lib.SlicesCompact
import Derived.WalkMore
import Derived.Shelf.Spec.SlicesInsertGrow
import Derived.Shelf.Spec.SlicesInsert
import Derived.Shelf.Sort.Plain
import Derived.Ground.Names2Prog
import Derived.Shelf.Slices.SearchI
import Derived.Shelf.Slices.In.SortNone
import Derived.Shelf.Bytes.SlEqualAll
import Derived.Shelf.Bytes.Small
import Derived.Test.YthmhklmkgkfcpaaGreatDoorProg
import Derived.Sort.OwnSortedInts
import Derived.Lib.OwnBridge
set_option linter.unusedVariables false
set_option linter.unusedSimpArgs false
set_option maxHeartbeats 8000000
set_option maxRecDepth 100000
namespace Go.Proofs.YthmhklmkgkfcpaaGreatDoor
open Go.RowKit
theorem agE (v:Value)(l:List UInt8)(w:World)(h:Rd w v l)(hl:l.length≤1099511627776):
  Calls Tryz.prog 109 #[v] w fun e w'=>∃ u,e=.returned u∧Ow 5 w' w.heap.size u l∧Kp w w':=by
 have U:=ar0
 have q:∀ (w:World) (a:Option Addr) (n c n' c':Nat),(binOp .eql 24 (.slice a n c) (.slice none n' c')).run Tryz.prog w=.ok (.bool a.isNone) w:=fun w a n c n' c'=>Lib.run_eql_slice_nil w _ _ a n c n' c' Tryz.underlying24
 obtain ⟨a,c,rfl,hc,hm,hnil,hcell⟩:=id h
 cases a with
 | none=>
  have hc0:=hnil rfl
  have hl0:l=[]:=List.eq_nil_of_length_eq_zero (by omega)
  subst hl0 hc0
  go_enter Tryz.func109,Tryz.ntmps109
  go_wp2_with fail
  go_ret
  exact ⟨_,rfl,Ow.nil _ _ _,Kp.refl _⟩
 | some a=>
  go_enter Tryz.func109,Tryz.ntmps109
  go_wp2_with (at_builtin;refine aae U rfl _ _ rfl w.heap.size _ [] rfl (Ow.lit w _ _ 0 #[] [] (Nat.le_refl _) rfl (by omega) rfl) _ l rfl (h.kp ((Kp.refl _).alloc _)) ?c1 ?c2 ?_;rotate_right;intro v' w2 ho2 hg _)
  case c1=>simp;omega
  case c2=>simp
  go_ret
  exact ⟨_,rfl,by simpa using ho2,Kp.grown (v:=.slice (some ⟨w.heap.size,0,none⟩) 0 0) ((Kp.refl _).alloc _) hg (by intro k hk;simp[Value.ownBlock] at hk;omega)⟩
def expE (n:Int):Int:=if 0≤n∧n≤8160 then 0 else 1
def expR (k info:List UInt8)(n:Int):List UInt8:=if 0≤n∧n≤8160 then expL k info n.toNat else []
theorem afs {n:Nat}(k info:List UInt8)(h:(n:Int)≤8160):expE n=0∧expR k info n=expL k info n:=by
 have:0≤(n:Int)∧(n:Int)≤8160:=by omega
 simp[expE,expR,this]
theorem agF {n:Int}(k info:List UInt8)(h:n<0∨8160<n):expE n=1∧expR k info n=[]:=by
 have:¬(0≤n∧n≤8160):=by omega
 simp[expE,expR,this]
theorem anQ (n:Nat)(vk vi:Value)(k info:List UInt8)(w0 w:World)(b1 b2 gK:Nat)(hk:Kp w0 w)(h1:One 24 w b1 (.slice (some ⟨gK,0,none⟩) 64 64))(h2:One 24 w b2 vi)(h3:By 5 w gK (keyB k))(h4:Rd w vi info)
  (hkl:k.length≤2000) (hil:info.length≤1800) (hn:n≤8160):
  Calls Tryz.prog 169 #[.int .i64 n,.func (.func 198) #[] #[.pointer (some ⟨b1,0,none⟩),.pointer (some ⟨b2,0,none⟩)]] w fun e w'=>(∃ v,e=.returned v∧Ow 5 w' w.heap.size v (expL k info n))∧Kp w w':=
 anM n 255 (expT k info) _ _ (fun j=>j<w.heap.size) w (aba k info) (by omega) (by omega) (enters_of Tryz.func198 (by kernel_rfl) rfl) (fun _ h=>h) (aho b1 b2 gK vi k info w h1 h2 h3 h4 hkl hil)
theorem ama (vk vi:Value)(k info:List UInt8)(n:Int)(w:World)(hk:Rd w vk k)(hi:Rd w vi info)(hkl:k.length≤2000)(hil:info.length≤1800):
  Calls Tryz.prog 137 #[vk,vi,.int .i64 n] w fun e w'=>(∃ v,e=.returned (.tuple #[v,.int .i64 (expE n)])∧Ow 5 w' w.heap.size v (expR k info n))∧Kp w w':=by
 obtain ⟨ai,ci,rfl,_,_⟩:=hi.shape;by_cases h1:n<0
 ·have hno:=agF k info (.inl h1)
  rw[hno.1,hno.2];have d1:decide (n<0)=true:=by simp[h1]
  go_enter Tryz.func137,Tryz.ntmps137;go_wp2_with fail;go_ret2;exact ⟨⟨_,rfl,Ow.nil _ _ _⟩,Kp.refl _⟩
 ·by_cases h2:8160<n
  ·have hno:=agF k info (.inr h2)
   rw[hno.1,hno.2];have d1:decide (n<0)=false:=by simp;omega
   have d2:decide (8160<n)=true:=by simp[h2]
   go_enter Tryz.func137,Tryz.ntmps137;go_wp2_with fail;go_ret2;exact ⟨⟨_,rfl,Ow.nil _ _ _⟩,Kp.refl _⟩
  ·obtain ⟨n,rfl⟩:=Int.eq_ofNat_of_zero_le (show 0≤n by omega)
   have hyes:=afs k info (show (n:Int)≤8160 by omega);rw[hyes.1,hyes.2];have d1:decide ((n:Int)<0)=false:=by simp
   have d2:decide (8160<(n:Int))=false:=by simp;omega
   clear hyes;go_enter Tryz.func137,Tryz.ntmps137;go_wp2_with fail;refine (ajI vk _ k info _ hk hkl ⟨_,_,_,rfl⟩).mono ?_;rintro e w1 ⟨⟨gK,rfl,o1,o2,o3⟩,k1⟩;go_wp2_with fail;refine (anQ n vk _ k info w w1 _ _ gK k1 o1 o2 o3 (hi.kp k1) hkl hil (by omega)).mono ?_;rintro e w2 ⟨⟨v,rfl,o⟩,k2⟩;go_wp2_with fail;go_ret2;exact ⟨⟨_,rfl,o.mono k1.size⟩,k1.trans k2⟩
def mlsB:List UInt8:=[77,76,83,32,49,46,48,32]
def labI (label ctx:List UInt8)(n:Nat):List UInt8:=be 2 n++rowB (mlsB++label)++rowB ctx
def labR (k label ctx:List UInt8)(n:Int):List UInt8:=expR k (labI label ctx n.toNat) n
theorem aeA (l ctx:List UInt8)(n:Nat)(hl:l.length≤300)(hc:ctx.length≤1400):(labI l ctx n).length≤1800:=by
 have h1:=agt (x:=mlsB++l) (by rw[List.length_append];simp[mlsB];omega);have h2:=agt (x:=ctx) (by omega);have h3:=abX (mlsB++l).length;have h4:=abX ctx.length;have h5:mlsB.length=8:=rfl;have h6:(mlsB++l).length=8+l.length:=by rw[List.length_append,h5]
 unfold labI;rw[List.length_append,List.length_append,aak,h1,h2];omega
theorem aeX (w:World)(e:TypeId)(s:ByteArray):Kp w (Lib.bytesWorld w e s):=
 ⟨rfl,rfl,rfl,by rw[Lib.bytesWorld_size];omega,fun k hk=>Lib.bytesWorld_at_old w e s k hk⟩
theorem aeY (w:World)(e:TypeId)(s:ByteArray)(h:s.size≤1000000):Rd (Lib.bytesWorld w e s) (.slice (some ⟨w.heap.size,0,none⟩) s.size (grownCap w s.size 0 e)) s.data.toList:=by
 have hl:s.data.toList.length=s.size:=rfl;refine ⟨_,_,by rw[hl],by rw[hl];exact grownCap_ge w _ _ _,grownCap_le_maxLen w _ _ _ (by unfold maxLen;omega),fun h=>(by cases h),fun x hx i hi=>?_⟩;cases hx;have e1:(⟨w.heap.size,0,none⟩:Addr).add i=⟨w.heap.size,i,none⟩:=by unfold Addr.add;split <;> simp_all
 rw[e1,Lib.bytesWorld_cell w e s i (by omega),List.getD_eq_getElem?_getD,List.getElem?_eq_getElem hi];rfl
theorem RL.lits4 {w:World}{T:TypeId}{v1 v2 v3 v4:Value}{l1 l2 l3 l4:List UInt8}(h1:Rd w v1 l1)(h2:Rd w v2 l2)(h3:Rd w v3 l3)(h4:Rd w v4 l4):RL (w.alloc (.cells #[v1,v2,v3,v4] T)) (.slice (some ⟨w.heap.size,0,none⟩) 4 4) [l1,l2,l3,l4]:=
 RL.cons (us:=[v2,v3,v4]) (ls:=[l2,l3,l4]) (World.ownsRow_lit w #[v1,v2,v3,v4] 4 (Nat.le_refl _) (by unfold maxLen;omega) rfl) (h1.kp ((Kp.refl _).alloc _)) rfl (fun i hi=>by
  have hi2:i<3:=by simpa using hi
  match i,hi2 with
  | 0,_=>exact h2.kp ((Kp.refl _).alloc _)
  | 1,_=>exact h3.kp ((Kp.refl _).alloc _)
  | 2,_=>exact h4.kp ((Kp.refl _).alloc _))
theorem Rd.sl {w:World}{v:Value}{l:List UInt8}(h:Rd w v l):∃ a n c,v=.slice a n c:=by
 obtain ⟨a,c,e,_⟩:=h.shape;exact ⟨_,_,_,e⟩
theorem ajL (s:ByteArray)(vc:Value)(ctx:List UInt8)(n:Nat)(w:World)(hc:Rd w vc ctx)(hs:s.size≤300)(hcl:ctx.length≤1400)(hn:(n:Int)≤65535):
  Calls Tryz.prog 136 #[.string s,vc,.int .i64 n] w fun e w'=>(∃ v,e=.returned (.tuple #[v,.int .i64 0])∧Ow 5 w' w.heap.size v (labI s.data.toList ctx n))∧Kp w w':=by
 obtain ⟨ai,ci,rfl,_,_⟩:=hc.shape;have hnum:=Lib.hid (fun W=>aez n 2 W (by omega));have hok:ael (n:Int) 2:=⟨by omega,by omega,by omega,by have:(256:Int) ^ (2:Int).toNat=65536:=(by decide);omega⟩;have e1:=adV hok;have e1b:numB (n:Int) 2=be 2 n:=by rw[e1.2];rfl
 have hrow:=Lib.hid (fun W hW=>akE (.slice ai ctx.length ci) ctx W hW);have e2:=(ahU (x:=ctx) (by omega)).1;have hsl:s.data.toList.length=s.size:=rfl;have e3:=ahU (x:=mlsB++s.data.toList) (by rw[List.length_append,hsl];simp[mlsB];omega);have e3l:lenE ((8:Int)+s.size)=0:=by unfold lenE;rw[if_neg (by omega)]
 have e3b:lenB ((8:Int)+s.size)++(mlsB++s.data.toList)=rowB (mlsB++s.data.toList):=by
  rw[e3.2,List.length_append,hsl];unfold lenB;rw[if_pos e3l];congr 2
 have hlen:=Lib.hid (fun W=>akD ((8:Int)+s.size) W);rw[e1.1,e1b] at hnum;rw[e2] at hrow;rw[e3l] at hlen;have hcv:=fun W (S:ByteArray)=>Lib.run_convert_string_bytes (P:=Tryz.prog) W 9 24 5 S Tryz.underlying9 Tryz.underlying24 Tryz.underlying5
 have hs8:(s.size:Int)≤300:=by omega
 have HO:=Lib.hid (And.intro e3b hs);clear hok e1 e1b e2 e3 e3l e3b hs hn;go_enter Tryz.func136,Tryz.ntmps136;go_wp2_with (first | (go_at_call 100;refine (hnum.out _).mono ?_;rintro e w1 ⟨v1,rfl,o1,k1⟩;obtain ⟨a1,n1,c1,rfl⟩:=o1.rd.sl) | (go_at_call 166;refine (hrow.out _ (hc.kp k1)).mono ?_;rintro e w2 ⟨v2,rfl,o2,k2⟩;obtain ⟨a2,n2,c2,rfl⟩:=o2.rd.sl) | (go_at_call 167;refine (hlen.out _).mono ?_;rintro e w3 ⟨v3,rfl,o3,k3⟩;obtain ⟨a3,n3,c3,rfl⟩:=o3.rd.sl))
 have kb:=aeX w3 5 (⟨#[77,76,83,32,49,46,48,32]⟩++s);have hsz:(⟨#[77,76,83,32,49,46,48,32]⟩++s:ByteArray).size=8+s.size:=by rw[ByteArray.size_append];rfl
 have hdt:(⟨#[77,76,83,32,49,46,48,32]⟩++s:ByteArray).data.toList=mlsB++s.data.toList:=by rw[ByteArray.data_append,Array.toList_append];rfl
 have hrb:=aeY w3 5 (⟨#[77,76,83,32,49,46,48,32]⟩++s) (by rw[hsz];omega);rw[hdt,hsz] at hrb;have hfl:([be 2 n,lenB ((8:Int)+s.size),mlsB++s.data.toList,rowB ctx]:List (List UInt8)).flatten=labI s.data.toList ctx n:=by
  unfold labI;rw[← HO.out.1];simp only[List.flatten_cons,List.flatten_nil,List.append_nil,List.append_assoc]
 have hll:=aeA s.data.toList ctx n (by rw[hsl];omega) hcl;have hl2:2≤(labI s.data.toList ctx n).length:=by unfold labI;rw[List.length_append,List.length_append,aak];omega
 refine (abW _ [be 2 n,lenB ((8:Int)+s.size),mlsB++s.data.toList,rowB ctx] _ (RL.lits4 (((o1.rd.kp k2).kp k3).kp kb) (o3.rd.kp kb) hrb ((o2.rd.kp k3).kp kb)) (by rw[hfl];omega) (by rw[hfl];omega) (by simp)).mono ?_;rw[hfl];rintro e w5 ⟨⟨v5,rfl,o5⟩,k5⟩;go_wp2_with fail;go_ret2;have kk:Kp w w5:=((((k1.trans k2).trans k3).trans kb).trans ((Kp.refl _).alloc _)).trans k5;have kl:=((((k1.trans k2).trans k3).trans kb).trans ((Kp.refl _).alloc (.cells #[.slice a1 n1 c1,.slice a3 n3 c3,.slice (some ⟨w3.heap.size,0,none⟩) (8+s.size) (grownCap w3 (8+s.size) 0 5),.slice a2 n2 c2] 24))).size;exact ⟨⟨_,rfl,o5.mono kl⟩,kk⟩
theorem akF (s:ByteArray)(vc:Value)(ctx:List UInt8)(n:Int)(w:World)(hc:Rd w vc ctx)(hn:n<0∨65535<n)(hn2:-9223372036854775808≤n∧n≤9223372036854775807):
  Calls Tryz.prog 136 #[.string s,vc,.int .i64 n] w fun e w'=>e=.returned (.tuple #[.slice none 0 0,.int .i64 1])∧Kp w w':=by
 obtain ⟨ai,ci,rfl,_,_⟩:=hc.shape;have hnum:=Lib.hid (fun W=>aez n 2 W hn2);have hok:¬ael n 2:=fun h=>by
  have h4:=h.2.2.2;have:(256:Int) ^ (2:Int).toNat=65536:=by decide
  have h3:=h.2.2.1;omega
 rw[(ahT hok).1] at hnum;clear hok hn hn2;go_enter Tryz.func136,Tryz.ntmps136;go_wp2_with (first | (go_at_call 100;refine (hnum.out _).mono ?_;rintro e w1 ⟨v1,rfl,o1,k1⟩;obtain ⟨a1,n1,c1,rfl⟩:=o1.rd.sl))
 go_ret2;exact ⟨rfl,k1⟩
theorem aeZ (vk:Value)(s:ByteArray)(vc:Value)(k ctx:List UInt8)(n:Int)(w:World)(hk:Rd w vk k)(hc:Rd w vc ctx)(hs:s.size≤300)(hcl:ctx.length≤1400)(hkl:k.length≤2000)(hn2:-9223372036854775808≤n∧n≤9223372036854775807):
  Calls Tryz.prog 101 #[vk,.string s,vc,.int .i64 n] w fun e w'=>(∃ v,e=.returned (.tuple #[v,.int .i64 (expE n)])∧Ow 5 w' w.heap.size v (labR k s.data.toList ctx n))∧Kp w w':=by
 have hsl:s.data.toList.length=s.size:=rfl;by_cases h1:n<0∨65535<n
 ·have hno:=agF k (labI s.data.toList ctx n.toNat) (n:=n) (by omega)
  have HL:=Lib.hid (akF s vc ctx n w hc h1 hn2);unfold labR;rw[hno.1,hno.2];clear h1 hn2;go_enter Tryz.func101,Tryz.ntmps101;go_wp2_with (first | (go_at_call 136;refine HL.out.mono ?_;rintro e w1 ⟨rfl,k1⟩))
  go_ret2;exact ⟨⟨_,rfl,Ow.nil _ _ _⟩,k1⟩
 ·obtain ⟨n,rfl⟩:=Int.eq_ofNat_of_zero_le (show 0≤n by omega)
  have HL:=Lib.hid (ajL s vc ctx n w hc hs hcl (by omega));have hll:=aeA s.data.toList ctx n (by omega) hcl;have HR:Hid (labR k s.data.toList ctx n=expR k (labI s.data.toList ctx n) n):=rfl;rw[HR.out];generalize labI s.data.toList ctx n=I at *;have HX:=Lib.hid (fun W v5 (hk':Rd W vk k) (h5:Rd W v5 I)=>ama vk v5 k I n W hk' h5 hkl hll);clear h1 hn2;go_enter Tryz.func101,Tryz.ntmps101;go_wp2_with (first | (go_at_call 136;refine HL.out.mono ?_;rintro e w1 ⟨⟨v1,rfl,o1⟩,k1⟩;obtain ⟨a1,n1,c1,rfl⟩:=o1.rd.sl) | (go_at_call 137;refine (HX.out _ _ (hk.kp k1) o1.rd).mono ?_;rintro e w2 ⟨⟨v2,rfl,o2⟩,k2⟩;obtain ⟨a2,n2,c2,rfl⟩:=o2.rd.sl))
  go_ret2;exact ⟨⟨_,rfl,o2.mono k1.size⟩,k1.trans k2⟩
theorem amb (vk:Value)(s:ByteArray)(k:List UInt8)(w:World)(hk:Rd w vk k)(hs:s.size≤300)(hkl:k.length≤2000):
  Calls Tryz.prog 140 #[vk,.string s] w fun e w'=>(∃ v,e=.returned (.tuple #[v,.int .i64 0])∧Ow 5 w' w.heap.size v (expL k (labI s.data.toList [] 32) 32))∧Kp w w':=by
 have HL:=Lib.hid (aeZ vk s (.slice none 0 0) k [] 32 w hk (abj w) hs (by simp) hkl (by omega));have e1:expE 32=0:=rfl;have e2:labR k s.data.toList [] 32=expL k (labI s.data.toList [] 32) 32:=rfl;rw[e1,e2] at HL;go_enter Tryz.func140,Tryz.ntmps140;go_wp2_with (first | (go_at_call 101;refine HL.out.mono ?_;rintro e w1 ⟨⟨v1,rfl,o1⟩,k1⟩;obtain ⟨a1,n1,c1,rfl⟩:=o1.rd.sl))
 go_ret2;exact ⟨⟨_,rfl,o1⟩,k1⟩
theorem ahy (x:Int)(w:World)(hx:-9223372036854775808≤x∧x≤9223372036854775807)(hT:Tab w):
  Calls Tryz.prog 119 #[.int .i64 x] w fun e w'=>e=.returned (.tuple #[.int .i64 (loV x),.int .i64 (hiV x)])∧Kp w w':=
 (agW x w hT).mono (by rintro _ _ ⟨rfl,rfl⟩;exact ⟨rfl,Kp.refl _⟩)
def ahz (t:List Nod):Nat:=if isTB ((lvs t:Nat):Int)=true∧2*lvs t=t.length+1 then lvs t else 0
theorem ad9 {t:List Nod}{K:Nat}(hK:K≤10)(h:t.length=2 ^ (K+1) - 1):ahz t=2 ^ K∧lvs t=2 ^ K:=by
 have h1:=aal K;have h2:=aaz K;have e1:lvs t=2 ^ K:=by unfold lvs;omega
 refine ⟨?_,e1⟩;unfold ahz;rw[e1,if_pos ⟨aeO K hK,by omega⟩]
end Go.Proofs.YthmhklmkgkfcpaaGreatDoor
namespace Go.Proofs
open Go.Shelf
def Tryz.lays189_ren:Go.Shelf.Ren:=⟨fun | 189=>148 | 125=>183 | 257=>182 | 128=>221 | 129=>222 | 294=>212 | 295=>213 | 296=>214 | 297=>215 | 298=>216 | 299=>217 | 216=>218 | 300=>219 | 301=>220 | 328=>251 | 329=>252 | 330=>253 | 331=>254 | 332=>255 | 215=>256 | 343=>269 | n=>n,fun | 28=>34 | 3=>3 | 46=>205 | 0=>0 | 51=>247 | 53=>249 | 4=>4 | 183=>241 | 182=>240 | 131=>143 | 5=>5 | 9=>9 | 218=>270 | 222=>274 | 228=>288 | 229=>69 | n=>n,fun | n=>n⟩
theorem Tryz.lays189:Go.Proofs.Lays.n189 Tryz.prog Tryz.lays189_ren:={
 mixed:=by kernel_rfl
 f125:=Tryz.func183.trans (congrArg some (by kernel_rfl))
 f128:=Tryz.func221.trans (congrArg some (by kernel_rfl))
 f129:=Tryz.func222.trans (congrArg some (by kernel_rfl))
 f189:=Tryz.func148.trans (congrArg some (by kernel_rfl))
 f215:=Tryz.func256.trans (congrArg some (by kernel_rfl))
 f216:=Tryz.func218.trans (congrArg some (by kernel_rfl))
 f257:=Tryz.func182.trans (congrArg some (by kernel_rfl))
 f294:=Tryz.func212.trans (congrArg some (by kernel_rfl))
 f295:=Tryz.func213.trans (congrArg some (by kernel_rfl))
 f296:=Tryz.func214.trans (congrArg some (by kernel_rfl))
 f297:=Tryz.func215.trans (congrArg some (by kernel_rfl))
 f298:=Tryz.func216.trans (congrArg some (by kernel_rfl))
 f299:=Tryz.func217.trans (congrArg some (by kernel_rfl))
 f300:=Tryz.func219.trans (congrArg some (by kernel_rfl))
 f301:=Tryz.func220.trans (congrArg some (by kernel_rfl))
 f328:=Tryz.func251.trans (congrArg some (by kernel_rfl))
 f329:=Tryz.func252.trans (congrArg some (by kernel_rfl))
 f330:=Tryz.func253.trans (congrArg some (by kernel_rfl))
 f331:=Tryz.func254.trans (congrArg some (by kernel_rfl))
 f332:=Tryz.func255.trans (congrArg some (by kernel_rfl))
 f343:=Tryz.func269.trans (congrArg some (by kernel_rfl))
 t0:=Tryz.underlying0
 a0:=Tryz.isAgg0
 z0:=Tryz.sizeOf0
 v0:=Tryz.zeroValue0
 t3:=Tryz.underlying3
 a3:=Tryz.isAgg3
 z3:=Tryz.sizeOf3
 v3:=Tryz.zeroValue3
 t4:=Tryz.underlying4
 a4:=Tryz.isAgg4
 z4:=Tryz.sizeOf4
 v4:=Tryz.zeroValue4
 t5:=Tryz.underlying5
 a5:=Tryz.isAgg5
 z5:=Tryz.sizeOf5
 v5:=Tryz.zeroValue5
 t9:=Tryz.underlying9
 a9:=Tryz.isAgg9
 z9:=Tryz.sizeOf9
 v9:=Tryz.zeroValue9
 t28:=Tryz.underlying34
 a28:=Tryz.isAgg34
 z28:=Tryz.sizeOf34
 v28:=Tryz.zeroValue34
 t46:=Tryz.underlying205
 a46:=Tryz.isAgg205
 z46:=Tryz.sizeOf205
 v46:=Tryz.zeroValue205
 t51:=Tryz.underlying247
 a51:=Tryz.isAgg247
 z51:=Tryz.sizeOf247
 v51:=Tryz.zeroValue247
 t53:=Tryz.underlying249
 a53:=Tryz.isAgg249
 z53:=Tryz.sizeOf249
 v53:=Tryz.zeroValue249
 t131:=Tryz.underlying143
 a131:=Tryz.isAgg143
 z131:=Tryz.sizeOf143
 v131:=Tryz.zeroValue143
 t182:=Tryz.underlying240
 a182:=Tryz.isAgg240
 z182:=Tryz.sizeOf240
 v182:=Tryz.zeroValue240
 t183:=Tryz.underlying241
 a183:=Tryz.isAgg241
 z183:=Tryz.sizeOf241
 v183:=Tryz.zeroValue241
 t218:=Tryz.underlying270
 a218:=Tryz.isAgg270
 z218:=Tryz.sizeOf270
 v218:=Tryz.zeroValue270
 t222:=Tryz.underlying274
 a222:=Tryz.isAgg274
 z222:=Tryz.sizeOf274
 v222:=Tryz.zeroValue274
 t228:=Tryz.underlying288
 a228:=Tryz.isAgg288
 z228:=Tryz.sizeOf288
 v228:=Tryz.zeroValue288
 t229:=Tryz.underlying69
 a229:=Tryz.isAgg69
 z229:=Tryz.sizeOf69
 v229:=Tryz.zeroValue69 }
open Go.Sort Go.RowKit in
theorem Tryz.slices_Sort_int (blk off cap:Nat)(zs:List Int)(w:World)(hH:Holds (Value.int .i64) w blk off zs.toArray)(hblk:blk<w.heap.size)(hsz:zs.length<4611686018427387904):
 Calls Tryz.prog 148 #[.slice (some ⟨blk,off,none⟩) zs.length cap] w fun e w'=>
  e=.returned (.tuple #[])∧∃ n os,w'=grow (putRow (Value.int .i64) (Sort.ahead w n) blk off (zs.mergeSort fun x y=>decide (x≤y)).toArray) os:=Any.slices_Sort_int Tryz.lays189 blk off cap zs w hH hblk hsz
open Go.RowKit Go.Sort in
theorem Tryz.slices_Sort_int_none (p:Option Addr)(cap:Nat)(w:World):
 Calls Tryz.prog 148 #[.slice p 0 cap] w fun e w'=>e=.returned (.tuple #[])∧w'=w:=Any.slices_Sort_int_none Tryz.lays189 p cap w
def Tryz.laysnb115_ren:Go.Shelf.Ren:=⟨fun | 115=>52 | n=>n,fun | 37=>24 | 4=>4 | 9=>9 | 5=>5 | n=>n,fun | n=>n⟩
theorem Tryz.laysnb115:Go.Proofs.Lays.nb115 Tryz.prog Tryz.laysnb115_ren:={
 mixed:=by kernel_rfl
 f115:=Tryz.func52.trans (congrArg some (by kernel_rfl))
 t4:=Tryz.underlying4
 a4:=Tryz.isAgg4
 z4:=Tryz.sizeOf4
 v4:=Tryz.zeroValue4
 t9:=Tryz.underlying9
 a9:=Tryz.isAgg9
 z9:=Tryz.sizeOf9
 v9:=Tryz.zeroValue9
 t37:=Tryz.underlying24
 a37:=Tryz.isAgg24
 z37:=Tryz.sizeOf24
 v37:=Tryz.zeroValue24
 t5:=Tryz.underlying5
 a5:=Tryz.isAgg5
 z5:=Tryz.sizeOf5
 v5:=Tryz.zeroValue5 }
theorem Tryz.bytes_Equal_all (p1 p2:Option Addr)(n c m d:Nat)(xs ys:List Int)(w:World)(hx:xs.length=n)(hy:ys.length=m)(h1:Lib.BytesIn w p1 n xs)(h2:Lib.BytesIn w p2 m ys):
 Calls Tryz.prog 52 #[.slice p1 n c,.slice p2 m d] w fun e w'=>e=.returned (.bool (Lib.bytesOf xs==Lib.bytesOf ys))∧w'=w:=Any.bytes_Equal_all Tryz.laysnb115 p1 p2 n c m d xs ys w hx hy h1 h2
end Go.Proofs
