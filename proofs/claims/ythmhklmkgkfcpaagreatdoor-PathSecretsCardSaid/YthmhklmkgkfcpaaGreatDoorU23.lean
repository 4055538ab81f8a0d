import Derived.Test.YthmhklmkgkfcpaaGreatDoorU8
import Derived.Test.YthmhklmkgkfcpaaGreatDoorU14
import Derived.Test.YthmhklmkgkfcpaaGreatDoorU20
set_option linter.unusedVariables false
set_option linter.unusedSimpArgs false
set_option maxHeartbeats 8000000
set_option maxRecDepth 100000
namespace Go.Proofs.YthmhklmkgkfcpaaGreatDoor
open Go.RowKit
def mlsB:List UInt8:=[77,76,83,32,49,46,48,32]
def labI (label ctx:List UInt8)(n:Nat):List UInt8:=be 2 n++rowB (mlsB++label)++rowB ctx
def labR (k label ctx:List UInt8)(n:Int):List UInt8:=expR k (labI label ctx n.toNat) n
theorem aer (l ctx:List UInt8)(n:Nat)(hl:l.length≤300)(hc:ctx.length≤1400):(labI l ctx n).length≤1800:=by
 have h1:=agq (x:=mlsB++l) (by rw[List.length_append];simp[mlsB];omega);have h2:=agq (x:=ctx) (by omega);have h3:=ab1 (mlsB++l).length;have h4:=ab1 ctx.length;have h5:mlsB.length=8:=rfl;have h6:(mlsB++l).length=8+l.length:=by rw[List.length_append,h5]
 unfold labI;rw[List.length_append,List.length_append,aak,h1,h2];omega
theorem aeM (w:World)(e:TypeId)(s:ByteArray):Kp w (Lib.bytesWorld w e s):=
 ⟨rfl,rfl,rfl,by rw[Lib.bytesWorld_size];omega,fun k hk=>Lib.bytesWorld_at_old w e s k hk⟩
theorem aeN (w:World)(e:TypeId)(s:ByteArray)(h:s.size≤1000000):Rd (Lib.bytesWorld w e s) (.slice (some ⟨w.heap.size,0,none⟩) s.size (grownCap w s.size 0 e)) s.data.toList:=by
 have hl:s.data.toList.length=s.size:=rfl;refine ⟨_,_,by rw[hl],by rw[hl];exact grownCap_ge w _ _ _,grownCap_le_maxLen w _ _ _ (by unfold maxLen;omega),fun h=>(by cases h),fun x hx i hi=>?_⟩;cases hx;have e1:(⟨w.heap.size,0,none⟩:Addr).add i=⟨w.heap.size,i,none⟩:=by unfold Addr.add;split <;> simp_all
 rw[e1,Lib.bytesWorld_cell w e s i (by omega),List.getD_eq_getElem?_getD,List.getElem?_eq_getElem hi];rfl
theorem RL.lits4 {w:World}{T:TypeId}{v1 v2 v3 v4:Value}{l1 l2 l3 l4:List UInt8}(h1:Rd w v1 l1)(h2:Rd w v2 l2)(h3:Rd w v3 l3)(h4:Rd w v4 l4):RL (w.alloc (.cells #[v1,v2,v3,v4] T)) (.slice (some ⟨w.heap.size,0,none⟩) 4 4) [l1,l2,l3,l4]:=
 RL.cons (us:=[v2,v3,v4]) (ls:=[l2,l3,l4]) (World.ownsRow_lit w #[v1,v2,v3,v4] 4 (Nat.le_refl _) (by unfold maxLen;omega) rfl) (h1.kp ((Kp.refl _).alloc _)) rfl (fun i hi=>by
  have hi2:i<3:=by simpa using hi
  match i,hi2 with
  | 0,_=>exact h2.kp ((Kp.refl _).alloc _)
  | 1,_=>exact h3.kp ((Kp.refl _).alloc _)
  | 2,_=>exact h4.kp ((Kp.refl _).alloc _))
theorem Rd.sl {w:World}{v:Value}{l:List UInt8}(h:Rd w v l):∃ a n c,v=.slice a n c:=by
 obtain ⟨a,c,e,_⟩:=h.shape;exact ⟨_,_,_,e⟩
theorem ajz (s:ByteArray)(vc:Value)(ctx:List UInt8)(n:Nat)(w:World)(hc:Rd w vc ctx)(hs:s.size≤300)(hcl:ctx.length≤1400)(hn:(n:Int)≤65535):
  Calls Tryz.prog 136 #[.string s,vc,.int .i64 n] w fun e w'=>(∃ v,e=.returned (.tuple #[v,.int .i64 0])∧Ow 5 w' w.heap.size v (labI s.data.toList ctx n))∧Kp w w':=by
 obtain ⟨ai,ci,rfl,_,_⟩:=hc.shape;have hnum:=Lib.hid (fun W=>aeq n 2 W (by omega));have hok:aed (n:Int) 2:=⟨by omega,by omega,by omega,by have:(256:Int) ^ (2:Int).toNat=65536:=(by decide);omega⟩;have e1:=adP hok;have e1b:numB (n:Int) 2=be 2 n:=by rw[e1.2];rfl
 have hrow:=Lib.hid (fun W hW=>akr (.slice ai ctx.length ci) ctx W hW);have e2:=(ahM (x:=ctx) (by omega)).1;have hsl:s.data.toList.length=s.size:=rfl;have e3:=ahM (x:=mlsB++s.data.toList) (by rw[List.length_append,hsl];simp[mlsB];omega);have e3l:lenE ((8:Int)+s.size)=0:=by unfold lenE;rw[if_neg (by omega)]
 have e3b:lenB ((8:Int)+s.size)++(mlsB++s.data.toList)=rowB (mlsB++s.data.toList):=by
  rw[e3.2,List.length_append,hsl];unfold lenB;rw[if_pos e3l];congr 2
 have hlen:=Lib.hid (fun W=>akq ((8:Int)+s.size) W);rw[e1.1,e1b] at hnum;rw[e2] at hrow;rw[e3l] at hlen;have hcv:=fun W (S:ByteArray)=>Lib.run_convert_string_bytes (P:=Tryz.prog) W 9 24 5 S Tryz.underlying9 Tryz.underlying24 Tryz.underlying5
 have hs8:(s.size:Int)≤300:=by omega
 have HO:=Lib.hid (And.intro e3b hs);clear hok e1 e1b e2 e3 e3l e3b hs hn;go_enter Tryz.func136,Tryz.ntmps136;go_wp2_with (first | (go_at_call 100;refine (hnum.out _).mono ?_;rintro e w1 ⟨v1,rfl,o1,k1⟩;obtain ⟨a1,n1,c1,rfl⟩:=o1.rd.sl) | (go_at_call 166;refine (hrow.out _ (hc.kp k1)).mono ?_;rintro e w2 ⟨v2,rfl,o2,k2⟩;obtain ⟨a2,n2,c2,rfl⟩:=o2.rd.sl) | (go_at_call 167;refine (hlen.out _).mono ?_;rintro e w3 ⟨v3,rfl,o3,k3⟩;obtain ⟨a3,n3,c3,rfl⟩:=o3.rd.sl))
 have kb:=aeM w3 5 (⟨#[77,76,83,32,49,46,48,32]⟩++s);have hsz:(⟨#[77,76,83,32,49,46,48,32]⟩++s:ByteArray).size=8+s.size:=by rw[ByteArray.size_append];rfl
 have hdt:(⟨#[77,76,83,32,49,46,48,32]⟩++s:ByteArray).data.toList=mlsB++s.data.toList:=by rw[ByteArray.data_append,Array.toList_append];rfl
 have hrb:=aeN w3 5 (⟨#[77,76,83,32,49,46,48,32]⟩++s) (by rw[hsz];omega);rw[hdt,hsz] at hrb;have hfl:([be 2 n,lenB ((8:Int)+s.size),mlsB++s.data.toList,rowB ctx]:List (List UInt8)).flatten=labI s.data.toList ctx n:=by
  unfold labI;rw[← HO.out.1];simp only[List.flatten_cons,List.flatten_nil,List.append_nil,List.append_assoc]
 have hll:=aer s.data.toList ctx n (by rw[hsl];omega) hcl;have hl2:2≤(labI s.data.toList ctx n).length:=by unfold labI;rw[List.length_append,List.length_append,aak];omega
 refine (ab0 _ [be 2 n,lenB ((8:Int)+s.size),mlsB++s.data.toList,rowB ctx] _ (RL.lits4 (((o1.rd.kp k2).kp k3).kp kb) (o3.rd.kp kb) hrb ((o2.rd.kp k3).kp kb)) (by rw[hfl];omega) (by rw[hfl];omega) (by simp)).mono ?_;rw[hfl];rintro e w5 ⟨⟨v5,rfl,o5⟩,k5⟩;go_wp2_with fail;go_ret2;have kk:Kp w w5:=((((k1.trans k2).trans k3).trans kb).trans ((Kp.refl _).alloc _)).trans k5;have kl:=((((k1.trans k2).trans k3).trans kb).trans ((Kp.refl _).alloc (.cells #[.slice a1 n1 c1,.slice a3 n3 c3,.slice (some ⟨w3.heap.size,0,none⟩) (8+s.size) (grownCap w3 (8+s.size) 0 5),.slice a2 n2 c2] 24))).size;exact ⟨⟨_,rfl,o5.mono kl⟩,kk⟩
theorem aks (s:ByteArray)(vc:Value)(ctx:List UInt8)(n:Int)(w:World)(hc:Rd w vc ctx)(hn:n<0∨65535<n)(hn2:-9223372036854775808≤n∧n≤9223372036854775807):
  Calls Tryz.prog 136 #[.string s,vc,.int .i64 n] w fun e w'=>e=.returned (.tuple #[.slice none 0 0,.int .i64 1])∧Kp w w':=by
 obtain ⟨ai,ci,rfl,_,_⟩:=hc.shape;have hnum:=Lib.hid (fun W=>aeq n 2 W hn2);have hok:¬aed n 2:=fun h=>by
  have h4:=h.2.2.2;have:(256:Int) ^ (2:Int).toNat=65536:=by decide
  have h3:=h.2.2.1;omega
 rw[(ahL hok).1] at hnum;clear hok hn hn2;go_enter Tryz.func136,Tryz.ntmps136;go_wp2_with (first | (go_at_call 100;refine (hnum.out _).mono ?_;rintro e w1 ⟨v1,rfl,o1,k1⟩;obtain ⟨a1,n1,c1,rfl⟩:=o1.rd.sl))
 go_ret2;exact ⟨rfl,k1⟩
theorem aeO (vk:Value)(s:ByteArray)(vc:Value)(k ctx:List UInt8)(n:Int)(w:World)(hk:Rd w vk k)(hc:Rd w vc ctx)(hs:s.size≤300)(hcl:ctx.length≤1400)(hkl:k.length≤2000)(hn2:-9223372036854775808≤n∧n≤9223372036854775807):
  Calls Tryz.prog 101 #[vk,.string s,vc,.int .i64 n] w fun e w'=>(∃ v,e=.returned (.tuple #[v,.int .i64 (expE n)])∧Ow 5 w' w.heap.size v (labR k s.data.toList ctx n))∧Kp w w':=by
 have hsl:s.data.toList.length=s.size:=rfl;by_cases h1:n<0∨65535<n
 ·have hno:=agC k (labI s.data.toList ctx n.toNat) (n:=n) (by omega)
  have HL:=Lib.hid (aks s vc ctx n w hc h1 hn2);unfold labR;rw[hno.1,hno.2];clear h1 hn2;go_enter Tryz.func101,Tryz.ntmps101;go_wp2_with (first | (go_at_call 136;refine HL.out.mono ?_;rintro e w1 ⟨rfl,k1⟩))
  go_ret2;exact ⟨⟨_,rfl,Ow.nil _ _ _⟩,k1⟩
 ·obtain ⟨n,rfl⟩:=Int.eq_ofNat_of_zero_le (show 0≤n by omega)
  have HL:=Lib.hid (ajz s vc ctx n w hc hs hcl (by omega));have hll:=aer s.data.toList ctx n (by omega) hcl;have HR:Hid (labR k s.data.toList ctx n=expR k (labI s.data.toList ctx n) n):=rfl;rw[HR.out];generalize labI s.data.toList ctx n=I at *;have HX:=Lib.hid (fun W v5 (hk':Rd W vk k) (h5:Rd W v5 I)=>al0 vk v5 k I n W hk' h5 hkl hll);clear h1 hn2;go_enter Tryz.func101,Tryz.ntmps101;go_wp2_with (first | (go_at_call 136;refine HL.out.mono ?_;rintro e w1 ⟨⟨v1,rfl,o1⟩,k1⟩;obtain ⟨a1,n1,c1,rfl⟩:=o1.rd.sl) | (go_at_call 137;refine (HX.out _ _ (hk.kp k1) o1.rd).mono ?_;rintro e w2 ⟨⟨v2,rfl,o2⟩,k2⟩;obtain ⟨a2,n2,c2,rfl⟩:=o2.rd.sl))
  go_ret2;exact ⟨⟨_,rfl,o2.mono k1.size⟩,k1.trans k2⟩
theorem al1 (vk:Value)(s:ByteArray)(k:List UInt8)(w:World)(hk:Rd w vk k)(hs:s.size≤300)(hkl:k.length≤2000):
  Calls Tryz.prog 140 #[vk,.string s] w fun e w'=>(∃ v,e=.returned (.tuple #[v,.int .i64 0])∧Ow 5 w' w.heap.size v (expL k (labI s.data.toList [] 32) 32))∧Kp w w':=by
 have HL:=Lib.hid (aeO vk s (.slice none 0 0) k [] 32 w hk (abn w) hs (by simp) hkl (by omega));have e1:expE 32=0:=rfl;have e2:labR k s.data.toList [] 32=expL k (labI s.data.toList [] 32) 32:=rfl;rw[e1,e2] at HL;go_enter Tryz.func140,Tryz.ntmps140;go_wp2_with (first | (go_at_call 101;refine HL.out.mono ?_;rintro e w1 ⟨⟨v1,rfl,o1⟩,k1⟩;obtain ⟨a1,n1,c1,rfl⟩:=o1.rd.sl))
 go_ret2;exact ⟨⟨_,rfl,o1⟩,k1⟩
theorem Rd.grown {w w':World}{v:Value}{l:List UInt8}{r:Option Nat}(h:Rd w v l)(hg:w.grownBy w' r)(hx:In (fun b=>some b≠r) v):Rd w' v l:=
 h.held (R:=fun b=>some b≠r) ⟨hg.size,fun k hk hr=>hg.block k hk hr⟩ hx
theorem Rd.takes {w:World}{a:Option Addr}{m c:Nat}{l:List UInt8}(h:Rd w (.slice a m c) l)(n:Nat)(hn:n≤m):Rd w (.slice a n c) (l.take n):=by
 obtain ⟨a',c',e,h1,h2,h3,h4⟩:=h;simp only[Value.slice.injEq] at e;obtain ⟨rfl,rfl,rfl⟩:=e;have hl:(l.take n).length=n:=by rw[List.length_take];omega
 exact ⟨a,c,by rw[hl],by omega,h2,h3,fun x hx i hi=>by rw[h4 x hx i (by omega),List.getElem_take]⟩
theorem aru (j:Nat):be 1 j=[UInt8.ofNat j]:=by simp[be]
theorem apn (j:Nat)(h:j≤255):IntKind.u8.wrap (j:Int)=((UInt8.ofNat j).toNat:Int):=by
 rw[IntKind.wrap_u8,UInt8.toNat_ofNat'];omega
theorem aiL (vk vi:Value)(k info:List UInt8)(n:Nat)(w:World)(hk:Rd w vk k)(hi:Rd w vi info)(hkl:k.length≤2000)(hil:info.length≤1800)(hn:n≤8160):
  Calls Tryz.prog 112 #[vk,vi,.int .i64 n] w fun e w'=>(∃ v,e=.returned (.tuple #[v,.int .i64 0])∧Rd w' v (expL k info n)∧aaN w.heap.size v)∧Kp w w':=by
 have U:=arN;obtain ⟨ai,ci,rfl,_,_⟩:=hi.shape;have d1:decide ((n:Int)<0)=false:=by simp
 have d2:decide (8160<(n:Int))=false:=by simp;omega
 have HC:=Lib.hid (acB (expT k info) (abc k info));have HS:Hid (∀ j,catB (expT k info) (j+1)=catB (expT k info) j++expT k info j):=fun _=>rfl
 have HT:=Lib.hid (abc k info);have HP:=Lib.hid (agz k info);have HX:=Lib.hid (ajs k info);have HE:Hid (∀ j,expP k info (j+1)=expT k info j):=fun _=>rfl
 have HF:=Lib.hid (fun j h=>agy (expT k info) (abc k info) n j h);go_enter Tryz.func112,Tryz.ntmps112;go_wp2_with fail;go_loopw[8,9,10] (fun vo vt p wr=>∃ j:Nat,32*j<n+32∧p=.int .i64 ((j:Int)+1)∧Ow 5 wr w.heap.size vo (catB (expT k info) j)∧Rd wr vt (expP k info j)∧Kp w wr) (fun _ _ p _=>300 - (intOf p).toNat)
 case atStart=>exact ⟨0,by omega,rfl,Ow.nil _ _ _,abn _,Kp.refl _⟩
 case round=>
  obtain ⟨j,hj,rfl,ho,ht,hkp⟩:=hrel;have hsz:=hkp.size;obtain ⟨ao,co,rfl,q1,q2⟩:=ho.rd.shape;have hcl:=HC.out j;unfold maxLen at q2;rw[hcl] at ho q1 ⊢;by_cases hlt:32*j<n
  ·have hq:32*(j:Int)<(n:Int):=by omega
   have hp:=HP.out j;have hx:=HX.out j;have hs:=HS.out j;have he:=HE.out j;have htl:=HT.out j;have hjl:j+1≤255:=by omega
   have hb:=apn (j+1) hjl;have hb1:=aru (j+1);rw[Int.natCast_add,Int.natCast_one] at hb;rw[hb1] at hx;obtain ⟨x,hxx⟩:∃ x,UInt8.ofNat (j+1)=x:=⟨_,rfl⟩;rw[hxx] at hb hx;obtain ⟨T,hT⟩:∃ T,expP k info j=T:=⟨_,rfl⟩;obtain ⟨L,hL⟩:∃ L,catB (expT k info) j=L:=⟨_,rfl⟩;rw[hT] at ht hp hx;rw[hL] at ho hcl hs;have HXX:=Lib.hid hx;have HSS:=Lib.hid hs;have HEE:=Lib.hid he;have HTL:=Lib.hid htl;have hiw:=hi.kp hkp;have hkw:=hk.kp hkp;clear hx hs he hb1 hT hL htl;go_wp2_with (at_builtin;first
    | (refine aae (o:=⟨some 26,_,_,_,_,_⟩) U rfl _ _ rfl wr.heap.size _ _ rfl (Ow.lit wr 5 wr.heap.size 0 #[] [] (Nat.le_refl _) rfl (by decide) rfl) _ T rfl (ht.kp ((Kp.refl _).alloc _)) (by simp;omega) (by simp) ?_;intro v1 x1 o1 g1 _;have k1:Kp wr x1:=Kp.grown ((Kp.refl wr).alloc _) g1 (by intro k e;cases e;exact Nat.le_refl _);rw[List.nil_append] at o1)
    | (refine aae (o:=⟨some 28,_,_,_,_,_⟩) U rfl _ _ rfl wr.heap.size _ _ rfl o1 _ info rfl (hiw.kp k1) (by omega) k1.size ?_;intro v2 x2 o2 g2 _;have k2:Kp wr x2:=Kp.grown k1 g2 o1.own_ge)
    | (refine aae (o:=⟨some 32,_,_,_,_,_⟩) U rfl _ _ rfl wr.heap.size _ _ rfl (o2.kp ((Kp.refl _).alloc _)) _ [x] rfl (Rd.box x2 5 _ x rfl) (by rw[List.length_append];simp;omega) (k2.alloc _).size ?_;intro v3 x3 o3 g3 _;have k3:Kp wr x3:=Kp.grown (k2.alloc _) g3 o2.own_ge))
   have hl3:(T++info++[x]).length≤1900:=by rw[List.length_append,List.length_append];simp;omega
   refine (amr vk v3 k (T++info++[x]) _ (hkw.kp k3) o3.rd hkl hl3).mono ?_;rw[← HXX.out];rintro e x4 ⟨⟨v4,rfl,o4⟩,k4⟩;have k4':=k3.trans k4;go_wp2_with (at_builtin;first
    | (refine aae (o:=⟨some 38,_,_,_,_,_⟩) U rfl _ _ rfl w.heap.size _ L rfl (ho.kp k4') _ (expT k info j) rfl o4.rd (by rw[HTL.out];omega) (hkp.trans k4').size ?_;intro v5 x5 o5 g5 _;have hr5:=o4.rd.grown g5 (fun b o n' c e e2=>by have h1:=o4.own_ge b (by rw[e];rfl);have h2:=ho.lt b e2.symm;have h3:=k3.size;omega);have k5:Kp w x5:=Kp.grown (hkp.trans k4') g5 ho.own_ge))
   go_roundw
   case rel=>exact ⟨j+1,by omega,by go_num,by rw[HSS.out];exact o5,by rw[HEE.out];exact hr5,k5⟩
   case measure=>simp[intOf];omega
  ·have hq:¬32*(j:Int)<(n:Int):=by omega
   have hfe:=HF.out j (by omega);have HFE:=Lib.hid hfe;clear hfe ht;have hnj:(n:Int)≤32*(j:Int):=by omega
   have hnc:(n:Int)≤(co:Int):=by omega
   go_wp2_with fail;go_ret2;exact ⟨⟨_,rfl,by rw[show expL k info n=(catB (expT k info) j).take n from HFE.out];exact ho.rd.takes n (by omega),fun g hg=>ho.own_ge g (by cases ao with | none=>exact hg | some x=>exact hg)⟩,hkp⟩
theorem aiM (vk vi:Value)(k info:List UInt8)(n:Int)(w:World)(hk:Rd w vk k)(hi:Rd w vi info)(hkl:k.length≤2000)(hil:info.length≤1800):
  Calls Tryz.prog 112 #[vk,vi,.int .i64 n] w fun e w'=>(∃ v,e=.returned (.tuple #[v,.int .i64 (expE n)])∧Rd w' v (expR k info n)∧aaN w.heap.size v)∧Kp w w':=by
 by_cases h1:n<0
 ·have hno:=agC k info (.inl h1)
  rw[hno.1,hno.2];have d1:decide (n<0)=true:=by simp[h1]
  go_enter Tryz.func112,Tryz.ntmps112;go_wp2_with fail;go_ret2;exact ⟨⟨_,rfl,abn _,aaN.nil _ _ _⟩,Kp.refl _⟩
 ·by_cases h2:8160<n
  ·have hno:=agC k info (.inr h2)
   rw[hno.1,hno.2];have d1:decide (n<0)=false:=by simp;omega
   have d2:decide (8160<n)=true:=by simp[h2]
   go_enter Tryz.func112,Tryz.ntmps112;go_wp2_with fail;go_ret2;exact ⟨⟨_,rfl,abn _,aaN.nil _ _ _⟩,Kp.refl _⟩
  ·obtain ⟨n,rfl⟩:=Int.eq_ofNat_of_zero_le (show 0≤n by omega)
   have hyes:=afk k info (show (n:Int)≤8160 by omega);rw[hyes.1,hyes.2];exact aiL vk vi k info n w hk hi hkl hil (by omega)
theorem afK (vk:Value)(s:ByteArray)(vc:Value)(k ctx:List UInt8)(n:Int)(w:World)(hk:Rd w vk k)(hc:Rd w vc ctx)(hs:s.size≤300)(hcl:ctx.length≤1400)(hkl:k.length≤2000):
  Calls Tryz.prog 63 #[vk,.string s,vc,.int .i64 n] w fun e w'=>(∃ v,e=.returned (.tuple #[v,.int .i64 (expE n)])∧Rd w' v (labR k s.data.toList ctx n)∧aaN w.heap.size v)∧Kp w w':=by
 have U:=arN;have hsl:s.data.toList.length=s.size:=rfl;by_cases h1:n<0
 ·have hno:=agC k (labI s.data.toList ctx n.toNat) (.inl h1)
  unfold labR;rw[hno.1,hno.2];have d1:decide (n<0)=true:=by simp[h1]
  go_enter Tryz.func63,Tryz.ntmps63;go_wp2_with fail;go_ret2;exact ⟨⟨_,rfl,abn _,aaN.nil _ _ _⟩,Kp.refl _⟩
 ·by_cases h2:8160<n
  ·have hno:=agC k (labI s.data.toList ctx n.toNat) (.inr h2)
   unfold labR;rw[hno.1,hno.2];have d1:decide (n<0)=false:=by simp;omega
   have d2:decide (8160<n)=true:=by simp[h2]
   go_enter Tryz.func63,Tryz.ntmps63;go_wp2_with fail;go_ret2;exact ⟨⟨_,rfl,abn _,aaN.nil _ _ _⟩,Kp.refl _⟩
  ·obtain ⟨n,rfl⟩:=Int.eq_ofNat_of_zero_le (show 0≤n by omega)
   have hll:=aer s.data.toList ctx n (by omega) hcl;have HR:Hid (labR k s.data.toList ctx n=expR k (labI s.data.toList ctx n) n):=rfl;have hok:aed (n:Int) 2:=⟨by omega,by omega,by omega,by have:(256:Int) ^ (2:Int).toNat=65536:=(by decide);omega⟩;have e1:=adP hok;have e1b:numB (n:Int) 2=be 2 n:=by rw[e1.2];rfl
   have hnum:=Lib.hid (fun W=>ahX n 2 W (by omega));rw[e1.1,e1b] at hnum;have e3:=ahM (x:=mlsB++s.data.toList) (by rw[List.length_append,hsl];simp[mlsB];omega);have e2:=ahM (x:=ctx) (by omega);have hrow1:=Lib.hid (fun W v hW=>ahZ v (mlsB++s.data.toList) W hW);have hrow2:=Lib.hid (fun W hW=>ahZ vc ctx W hW);rw[e3.1] at hrow1;rw[e2.1] at hrow2;have hcv:=fun W (S:ByteArray)=>Lib.run_convert_string_bytes (P:=Tryz.prog) W 9 24 5 S Tryz.underlying9 Tryz.underlying24 Tryz.underlying5
   have HI:Hid (labI s.data.toList ctx n=be 2 n++rowB (mlsB++s.data.toList)++rowB ctx):=rfl;have hln:(be 2 n).length=2:=aak _ _;have hl2:(be 2 n).length+(rowB (mlsB++s.data.toList)).length+(rowB ctx).length≤1800:=by rw[HI.out,List.length_append,List.length_append] at hll;exact hll
   have hsz:(⟨#[77,76,83,32,49,46,48,32]⟩++s:ByteArray).size=8+s.size:=by rw[ByteArray.size_append];rfl
   have hdt:(⟨#[77,76,83,32,49,46,48,32]⟩++s:ByteArray).data.toList=mlsB++s.data.toList:=by rw[ByteArray.data_append,Array.toList_append];rfl
   have hrb:=Lib.hid (fun W=>show Rd (Lib.bytesWorld W 5 (⟨#[77,76,83,32,49,46,48,32]⟩++s)) (.slice (some ⟨W.heap.size,0,none⟩) (8+s.size) (grownCap W (8+s.size) 0 5)) (mlsB++s.data.toList) from by
    have:=aeN W 5 (⟨#[77,76,83,32,49,46,48,32]⟩++s) (by rw[hsz];omega);rw[hdt,hsz] at this;exact this)
   have hkb:=Lib.hid (fun W=>aeM W 5 (⟨#[77,76,83,32,49,46,48,32]⟩++s));have HD:=Lib.hid hsz;have d1:decide ((n:Int)<0)=false:=by simp
   have d2:decide (8160<(n:Int))=false:=by simp;omega
   have HL2:=Lib.hid hl2;have HX:=Lib.hid (fun W v5 (hk':Rd W vk k) (h5:Rd W v5 (labI s.data.toList ctx n))=>aiM vk v5 k (labI s.data.toList ctx n) n W hk' h5 hkl hll);clear hok e1 e1b e3 e2 hll hsz hdt hl2 hln;rw[HR.out];go_enter Tryz.func63,Tryz.ntmps63;go_wp2_with (first
    | (go_at_call 62;refine (hnum.out _).mono ?_;rintro e w1 ⟨v1,rfl,o1,k1⟩;obtain ⟨a1,n1,c1,rfl⟩:=o1.rd.sl))
   refine (hrow1.out _ _ (hrb.out w1)).mono ?_;rintro e w2 ⟨v2,rfl,o2,k2⟩;obtain ⟨a2,n2,c2,rfl⟩:=o2.rd.sl;have kb:=(hkb.out w1).trans k2;have hs2:=kb.size;have hcc:=(hc.kp k1).kp kb;go_wp2_with fail;refine (hrow2.out _ hcc).mono ?_;rintro e w3 ⟨v3,rfl,o3,k3⟩;obtain ⟨a3,n3,c3,rfl⟩:=o3.rd.sl;have k13:=kb.trans k3;have kw3:=k1.trans k13;have r2:=o2.rd.kp k3;have o13:=o1.kp k13;have hb1:∀ b,(Value.slice a1 n1 c1).ownBlock=some b→b<w2.heap.size:=fun b e=>by have:=o1.lt b e;omega
   go_wp2_with (at_builtin;first
    | (refine aae (o:=⟨some 42,_,_,_,_,_⟩) U rfl _ _ rfl w.heap.size _ (be 2 n) rfl o13 _ (rowB (mlsB++s.data.toList)) rfl r2 (by have:=HL2.out;omega) kw3.size ?_;intro v4 w4 o4 g4 _;have r3:=o3.rd.grown g4 (fun b o n' c' e e2=>by have h1:=o3.own_ge b (by rw[e];rfl);have h2:=hb1 b e2.symm;omega);have k4:Kp w w4:=Kp.grown kw3 g4 o1.own_ge)
    | (refine aae (o:=⟨some 44,_,_,_,_,_⟩) U rfl _ _ rfl w.heap.size _ (be 2 n++rowB (mlsB++s.data.toList)) rfl o4 _ (rowB ctx) rfl r3 (by have:=HL2.out;rw[List.length_append];omega) k4.size ?_;intro v5 w5 o5 g5 _;have k5:Kp w w5:=Kp.grown k4 g5 o4.own_ge))
   refine (HX.out _ _ (hk.kp k5) (by rw[HI.out];exact o5.rd)).mono ?_;rintro e w6 ⟨⟨v6,rfl,r6,n6⟩,k6⟩;go_wp2_with fail;go_ret2;exact ⟨⟨_,rfl,r6,n6.kp k5⟩,k5.trans k6⟩
theorem aiN (vk:Value)(s:ByteArray)(k:List UInt8)(w:World)(hk:Rd w vk k)(hs:s.size≤300)(hkl:k.length≤2000):
  Calls Tryz.prog 81 #[vk,.string s] w fun e w'=>(∃ v,e=.returned (.tuple #[v,.int .i64 0])∧Rd w' v (expL k (labI s.data.toList [] 32) 32)∧aaN w.heap.size v)∧Kp w w':=by
 have HL:=Lib.hid (afK vk s (.slice none 0 0) k [] 32 w hk (abn w) hs (by simp) hkl);have e1:expE 32=0:=rfl;have e2:labR k s.data.toList [] 32=expL k (labI s.data.toList [] 32) 32:=rfl;rw[e1,e2] at HL;go_enter Tryz.func81,Tryz.ntmps81;go_wp2_with (first | (go_at_call 63;refine HL.out.mono ?_;rintro e w1 ⟨⟨v1,rfl,o1,n1'⟩,k1⟩;obtain ⟨a1,n1,c1,rfl⟩:=o1.sl))
 go_ret2;exact ⟨⟨_,rfl,o1,n1'⟩,k1⟩
end Go.Proofs.YthmhklmkgkfcpaaGreatDoor
