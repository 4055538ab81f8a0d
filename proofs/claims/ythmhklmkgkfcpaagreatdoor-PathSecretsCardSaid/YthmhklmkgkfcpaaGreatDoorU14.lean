import Derived.Test.YthmhklmkgkfcpaaGreatDoorU2
import Derived.Test.YthmhklmkgkfcpaaGreatDoorU3
import Derived.Test.YthmhklmkgkfcpaaGreatDoorU4
import Derived.Test.YthmhklmkgkfcpaaGreatDoorU8
import Derived.Test.YthmhklmkgkfcpaaGreatDoorU9
import Derived.Test.YthmhklmkgkfcpaaGreatDoorU10
import Derived.Test.YthmhklmkgkfcpaaGreatDoorU12
import Derived.Test.YthmhklmkgkfcpaaGreatDoorU13
import Derived.RegionTactic
import Derived.BigRegion
set_option linter.unusedVariables false
set_option linter.unusedSimpArgs false
set_option maxHeartbeats 8000000
set_option maxRecDepth 100000
namespace Go.Proofs.YthmhklmkgkfcpaaGreatDoor
open Go.RowKit
theorem abn (w:World):Rd w (.slice none 0 0) []:=⟨none,0,rfl,Nat.le_refl _,Nat.zero_le _,fun _=>rfl,fun x hx=>by cases hx⟩
theorem aaQ (l:List UInt8):(aaI l).length=32:=afB _
theorem arl (v:Value)(l:List UInt8)(w:World)(h:Rd w v l)(hl:l.length≤2000):
  Calls Tryz.prog 211 #[v] w fun e w'=>(∃ a c,e=.returned (.slice a 32 c)∧Rd w' (.slice a 32 c) (aaI l))∧Kp w w':=by
 refine (aqn v l w h hl).mono ?_;rintro e w' ⟨⟨v',rfl,hr⟩,hk⟩;obtain ⟨a,c,rfl,_,_⟩:=hr.shape;rw[aaQ] at hr ⊢;exact ⟨⟨a,c,rfl,hr⟩,hk⟩
theorem anx (v:Value)(l:List UInt8)(w:World)(h:Rd w v l)(hl:l.length≤2000):
  Calls Tryz.prog 211 #[v] w fun e w'=>(∃ a c,e=.returned (.slice a 32 c)∧Ow 5 w' w.heap.size (.slice a 32 c) (aaI l))∧Kp w w':=by
 refine (anw v l w h hl).mono ?_;rintro e w' ⟨⟨v',rfl,hr⟩,hk⟩;obtain ⟨a,c,rfl,_,_⟩:=hr.rd.shape;rw[aaQ] at hr ⊢;exact ⟨⟨a,c,rfl,hr⟩,hk⟩
theorem adk (k:List UInt8):(keyB k).length=64:=by
 unfold keyB;split
 ·exact agw _ (by rw[aaQ];omega)
 ·exact agw _ (by omega)
theorem anz (v:Value)(l:List UInt8)(w:World)(h:Rd w v l)(hl:l.length≤2000):
  Calls Tryz.prog 197 #[v] w fun e w'=>(∃ g,e=.returned (.slice (some ⟨g,0,none⟩) 64 64)∧By 5 w' g (keyB l)∧w.heap.size≤g)∧Kp w w':=by
 have U:=arN;obtain ⟨a,c,rfl,h1,h2⟩:=h.shape;unfold maxLen at h2;have HF:Hid (∀ W:World,By 5 (W.alloc (.cells (Array.replicate 64 (.int .u8 0)) 5)) W.heap.size (List.replicate 64 0)):=fun W=>By.fresh _ _ _
 have hb:∀ k:List UInt8,k.length≤64→k++(List.replicate 64 (0:UInt8)).drop k.length=blkB k:=fun k hk=>by unfold blkB;rw[List.drop_replicate]
 have HB:=Lib.hid hb;clear hb;by_cases hlt:64<l.length
 ·have hK:keyB l=blkB (aaI l):=by unfold keyB;rw[if_pos hlt]
  have HK:=Lib.hid hK;have HD:=Lib.hid (aaQ l);have hlt':64<(l.length:Int):=by omega
  clear hK;go_enter Tryz.func197,Tryz.ntmps197;go_wp2_with fail;refine (arl _ l _ h hl).mono ?_;rintro e w1 ⟨⟨a1,c1,rfl,r1⟩,k1⟩;go_wp2_with (first
   | (at_make;refine aaT (z:=.int .u8 0) (b:=1) Tryz.underlying24 Tryz.info5 rfl (by decide) rfl _ _ rfl 64 rfl rfl (by omega) ?_;intro w2 hw2;have hg2:By 5 w2 w1.heap.size (List.replicate 64 0):=(by rw[hw2];exact HF w1);have hk2:Kp w1 w2:=(by rw[hw2];exact (Kp.refl _).alloc _);clear hw2)
   | (refine abO U rfl (.tmp 10) (.tmp 11) rfl 5 w1.heap.size _ (aaI l) (List.replicate 64 0) 64 64 rfl rfl hg2 (by simp) (r1.kp hk2) (by rw[HD.out];omega) ?_;intro w3 hg3 hbut))
  go_ret;rw[HB.out _ (by rw[HD.out];omega)] at hg3;refine ⟨⟨_,rfl,by rw[HK.out];exact hg3,k1.size⟩,hbut.below (k1.trans hk2) k1.size⟩
 ·have hK:keyB l=blkB l:=by unfold keyB;rw[if_neg hlt]
  have HK:=Lib.hid hK;have hlt':¬64<(l.length:Int):=by omega
  clear hK;go_enter Tryz.func197,Tryz.ntmps197;go_wp2_with (first
   | (at_make;refine aaT (z:=.int .u8 0) (b:=1) Tryz.underlying24 Tryz.info5 rfl (by decide) rfl _ _ rfl 64 rfl rfl (by omega) ?_;intro w2 hw2;have hg2:By 5 w2 w.heap.size (List.replicate 64 0):=(by rw[hw2];exact HF w);have hk2:Kp w w2:=(by rw[hw2];exact (Kp.refl _).alloc _);clear hw2)
   | (refine abO U rfl (.tmp 10) (.tmp 11) rfl 5 w.heap.size _ l (List.replicate 64 0) 64 64 rfl rfl hg2 (by simp) (h.kp hk2) (by omega) ?_;intro w3 hg3 hbut))
  go_ret;rw[HB.out _ (by omega)] at hg3;refine ⟨⟨_,rfl,by rw[HK.out];exact hg3,Nat.le_refl _⟩,hbut.below hk2 (Nat.le_refl _)⟩
def catB (B:Nat→List UInt8):Nat→List UInt8
 | 0=>[]
 | i+1=>catB B i++B i
theorem acB (B:Nat→List UInt8)(h:∀ i,(B i).length=32):∀ N,(catB B N).length=32*N
 | 0=>rfl
 | N+1=>by rw[catB,List.length_append,acB B h N,h N];omega
theorem akn (B:Nat→List UInt8)(i k:Nat):∃ r,catB B (i+k)=catB B i++r:=by
 induction k with
 | zero=>exact ⟨[],by simp⟩
 | succ k ih=>obtain ⟨r,hr⟩:=ih;exact ⟨r++B (i+k),by rw[← Nat.add_assoc,catB,hr,List.append_assoc]⟩
def aeK (B:Nat→List UInt8)(n:Nat):List UInt8:=(catB B ((n+31) / 32)).take n
theorem agy (B:Nat→List UInt8)(h:∀ i,(B i).length=32)(n N:Nat)(hn:n≤32*N):aeK B n=(catB B N).take n:=by
 obtain ⟨r,hr⟩:=akn B ((n+31) / 32) (N - (n+31) / 32);have hle:(n+31) / 32≤N:=by omega
 rw[show (n+31) / 32+(N - (n+31) / 32)=N by omega] at hr;rw[hr,List.take_append_of_le_length (by rw[acB B h];omega)];rfl
theorem abP (B:Nat→List UInt8)(h:∀ i,(B i).length=32)(n:Nat):(aeK B n).length=n:=by
 unfold aeK;rw[List.length_take,acB B h];omega
theorem ako (B:Nat→List UInt8)(h:∀ i,(B i).length=32)(n i j:Nat)(hj:j<32)(hn:32*i+(j+1)=n):catB B i++(B i).take (j+1)=aeK B n:=by
 have e:n - 32*i=j+1:=by omega
 have hl:=acB B h i;rw[agy B h n (i+1) (by omega),catB,List.take_append,hl,e,List.take_of_length_le (l:=catB B i) (by omega)]
theorem akp (B:Nat→List UInt8):aeK B 0=[]:=rfl
theorem aqZ (B:Nat→List UInt8)(h:∀ i,(B i).length=32):aeK B 32=B 0:=by
 rw[agy B h 32 1 (by omega),catB,catB,List.nil_append,List.take_of_length_le (by rw[h];omega)]
theorem adl (k b:List UInt8):(macB k b).length=32:=aaQ _
theorem aoZ (k:List UInt8):keyB (keyB k)=keyB k:=by
 have h:=adk k;obtain ⟨K,hK⟩:∃ K,keyB k=K:=⟨_,rfl⟩;rw[hK] at h ⊢;unfold keyB blkB;rw[if_neg (by omega),h];simp
theorem ao0 (k b:List UInt8):macB (keyB k) b=macB k b:=by unfold macB;rw[aoZ]
def expT (k info:List UInt8):Nat→List UInt8
 | 0=>macB k (info++be 1 1)
 | i+1=>macB k (expT k info i++info++be 1 (i+2))
theorem abc (k info:List UInt8):∀ i,(expT k info i).length=32
 | 0=>adl _ _
 | _+1=>adl _ _
def expP (k info:List UInt8):Nat→List UInt8
 | 0=>[]
 | i+1=>expT k info i
theorem ajs (k info:List UInt8)(i:Nat):expT k info i=macB k (expP k info i++info++be 1 (i+1)):=by
 cases i with
 | zero=>simp[expT,expP]
 | succ i=>rfl
theorem agz (k info:List UInt8):∀ i,(expP k info i).length≤32
 | 0=>by simp[expP]
 | i+1=>by rw[expP,abc];omega
def expL (k info:List UInt8)(n:Nat):List UInt8:=aeK (expT k info) n
theorem One.same {T:TypeId}{X:Nat→Prop}{w w':World}{p:Nat}{v:Value}(h:One T w p v)(k:Same X w w')(hx:¬X p):One T w' p v:=(k.block p h.lt hx).trans h
theorem ao1 (i n c:Nat)(x y:UInt8)(p o g:Nat)(T1 T2:TypeId)(m:List UInt8)(w:World)(hi:i<m.length)(hn:m.length=n)(hp:One T1 w p (.int .u8 (y.toNat:Int)))(ho:One T2 w o (.slice (some ⟨g,0,none⟩) n c))(hg:By 5 w g m)(hnm:n≤1000000):
  Calls Tryz.prog 262 #[.int .i64 i,.int .u8 (x.toNat:Int),.pointer (some ⟨p,0,none⟩),.pointer (some ⟨o,0,none⟩)] w fun e w'=>e=.returned (.tuple #[])∧w.setCell ⟨g,i,none⟩ (.int .u8 ((x ^^^ y).toNat:Int))=w':=by
 have cp:=hp.cell;have co:=ho.cell;have cg:=hg.cell i hi;have fg:=hg.frozen i;have hb:=akl x y;have hin:i<n:=by omega
 obtain ⟨z,hz⟩:∃ z:Int,z=((x ^^^ y).toNat:Int):=⟨_,rfl⟩;rw[← hz] at hb ⊢;clear hz hn;go_enter Tryz.func262,Tryz.ntmps262;go_wp2_with fail;go_end0
 exact ⟨rfl,rfl⟩
theorem ao3 (l:List UInt8)(y:UInt8)(k:Nat)(h:k<l.length):(mixB (List.replicate l.length 0) (xorB l y) k).set k (l.getD k 0 ^^^ y)=mixB (List.replicate l.length 0) (xorB l y) (k+1):=
 acn _ _ k (by simp[abH]) (by simpa using h) _ (aoW l y k h)
theorem ajt (v:Value)(l:List UInt8)(y:UInt8)(p o g c:Nat)(T1 T2:TypeId)(w w3:World)(h:Rd w v l)(hl:l.length≤1000000)(hk:Kp w w3)(hgw:w.heap.size≤g)
  (hp:One T1 w3 p (.int .u8 (y.toNat:Int))) (ho:One T2 w3 o (.slice (some ⟨g,0,none⟩) l.length c)) (hpg:p≠g) (hog:o≠g) (hg:By 5 w3 g (List.replicate l.length 0)):
  Calls Tryz.prog 260 #[v,.func (.func 262) #[] #[.pointer (some ⟨p,0,none⟩),.pointer (some ⟨o,0,none⟩)]] w3 fun e w'=>e=.returned (.tuple #[])∧By 5 w' g (xorB l y)∧Same (fun k=>k=g) w3 w'∧Kp w w':=by
 obtain ⟨a,cc,rfl,h1,h2⟩:=h.shape;unfold maxLen at h2;have HS:=Lib.hid (ao3 l y);have hall:mixB (List.replicate l.length 0) (xorB l y) l.length=xorB l y:=by
  have:=adg (List.replicate l.length 0) (xorB l y) (by simp[abH]);rwa [abH] at this
 have HA:=Lib.hid hall;have h00:mixB (List.replicate l.length 0) (xorB l y) 0=List.replicate l.length 0:=by simp[mixB]
 have hg0:By 5 w3 g (mixB (List.replicate l.length 0) (xorB l y) 0):=by rw[h00];exact hg
 have HL:Hid (∀ k,k≤l.length→(mixB (List.replicate l.length 0) (xorB l y) k).length=l.length):=fun k hk=>by
  rw[aaV _ _ _ (by simp[abH]) (by simpa using hk)];simp
 clear hall h00 hg;go_enter Tryz.func260,Tryz.ntmps260;go_wp2_with fail;go_loopw[8] (fun i wr=>∃ k:Nat,k≤l.length∧i=.int .i64 k∧By 5 wr g (mixB (List.replicate l.length 0) (xorB l y) k)∧Same (fun k=>k=g) w3 wr∧Kp w wr) (fun i _=>(l.length - (intOf i).toNat))
 case atStart=>exact ⟨0,by omega,rfl,hg0,Same.refl _ _,hk⟩
 case round=>
  clear hg0;obtain ⟨k,hkl,rfl,hB,hS,hkp⟩:=hrel;by_cases hlt:k<l.length
  ·obtain ⟨b,off,rfl,_,hcell⟩:=h.at k hlt
   have hc0:=hkp.cell (hcell k hlt);have hpr:=hp.same hS hpg;have hor:=ho.same hS hog;have HX:=Lib.hid (ao1 k l.length c (l.getD k 0) y p o g T1 T2 _ wr (by rw[HL.out k hkl];exact hlt) (HL.out k hkl) hpr hor hB hl);have hst:=HS.out k hlt;have HST:=Lib.hid hst;clear hst hcell;generalize hx:l.getD k 0=x at *;clear hx;go_wp2_with (go_at_call 262;refine HX.out.mono ?_;rintro e w4 ⟨rfl,rfl⟩)
   go_roundw
   case rel=>exact ⟨k+1,by omega,by go_num,hB.set k _ HST.out,hS.setCell _ _ rfl,Below.setCell hkp hgw _⟩
   case measure=>simp[intOf];omega
  ·obtain rfl:k=l.length:=by omega
   go_wp2_with fail;go_end0
   exact ⟨rfl,by rw[← HA.out];exact hB,hS,hkp⟩
theorem ahU (v:Value)(l:List UInt8)(y:UInt8)(w:World)(h:Rd w v l)(hl:l.length≤1000000):
  Calls Tryz.prog 236 #[v,.int .u8 (y.toNat:Int)] w fun e w'=>(∃ g,e=.returned (.slice (some ⟨g,0,none⟩) l.length l.length)∧By 5 w' g (xorB l y)∧w.heap.size≤g)∧Kp w w':=by
 obtain ⟨a,cc,rfl,h1,h2⟩:=h.shape;unfold maxLen at h2;have hp0:One 5 (w.alloc (.cells #[.int .u8 (y.toNat:Int)] 5)) w.heap.size (.int .u8 (y.toNat:Int)):=One.new _ _ _;have hf0:∀ W,W=(w.alloc (.cells #[.int .u8 (y.toNat:Int)] 5)).alloc (.cells (Array.replicate l.length (.int .u8 0)) 5)→By 5 W (w.heap.size+1) (List.replicate l.length 0):=fun W hW=>by
  subst hW;have:=By.fresh 5 (w.alloc (.cells #[.int .u8 (y.toNat:Int)] 5)) l.length;rwa [World.size_alloc] at this
 have HF:=Lib.hid hf0;have HP:=Lib.hid hp0;clear hf0 hp0;go_enter Tryz.func236,Tryz.ntmps236;go_wp2_with (at_make;refine aaT (z:=.int .u8 0) (b:=1) Tryz.underlying24 Tryz.info5 rfl (by decide) rfl _ _ rfl l.length rfl rfl hl ?_;intro w1 hw1;have hg1:=HF.out w1 hw1;have hp1:One 5 w1 w.heap.size (.int .u8 (y.toNat:Int)):=(by rw[hw1];exact HP.out.kp ((Kp.refl _).alloc _));have hk1:Kp w w1:=(by rw[hw1];exact ((Kp.refl w).alloc _).alloc _);have hs1:=hg1.lt;clear hw1)
 have ho3:One 24 (w1.alloc (.cells #[.slice (some ⟨w.heap.size+1,0,none⟩) l.length l.length] 24)) w1.heap.size (.slice (some ⟨w.heap.size+1,0,none⟩) l.length l.length):=One.new _ _ _;refine (ajt _ l y w.heap.size w1.heap.size (w.heap.size+1) l.length _ _ w _ h hl (hk1.alloc _) (by omega) (hp1.kp ((Kp.refl _).alloc _)) ho3 (by omega) (by omega) (hg1.kp ((Kp.refl _).alloc _))).mono ?_;rintro e w4 ⟨rfl,hg4,hS4,hk4⟩;have ho4:=(ho3.same hS4 (by omega)).cell;clear ho3;go_wp2_with fail;go_ret;exact ⟨⟨_,rfl,hg4,by omega⟩,hk4⟩
theorem adm (x:Int)(w:World):
  Calls Tryz.prog 134 #[.int .i64 x] w fun e w'=>e=.returned (.bool (decide (1≤x∧x≤7)))∧w=w':=by
 by_cases h1:1≤x
 ·have e:decide (1≤x∧x≤7)=decide (x≤7):=by simp[h1]
  rw[e];go_enter Tryz.func134,Tryz.ntmps134;go_wp2;go_ret;exact ⟨rfl,rfl⟩
 ·have e:decide (1≤x∧x≤7)=false:=by simp[h1]
  go_enter Tryz.func134,Tryz.ntmps134;go_wp2;go_ret;exact ⟨by simp,rfl⟩
theorem pow8 (k:Nat):(2:Int) ^ (8*k)=((256 ^ k:Nat):Int):=by
 rw[Nat.pow_mul' 2 8 k |> fun _=>show (256:Nat) ^ k=2 ^ (8*k) from by rw[Nat.pow_mul]];push_cast;rfl
theorem ahV (n k:Nat):(n:Int)<256 ^ (k:Int).toNat↔n<256 ^ k:=by
 rw[Int.toNat_natCast,← Int.ofNat_lt,Int.natCast_pow];rfl
theorem ao4 (n k:Nat)(h:n<256 ^ k):((n:Int) / 2 ^ (8*k) != 0)=false:=by
 rw[pow8,← Int.natCast_ediv,Nat.div_eq_of_lt h];rfl
theorem aqp (n k:Nat)(h:¬n<256 ^ k):((n:Int) / 2 ^ (8*k) != 0)=true:=by
 rw[pow8,← Int.natCast_ediv,bne_iff_ne];have:0<n / 256 ^ k:=Nat.div_pos (by omega) (Nat.pos_of_ne_zero (by simp));omega
theorem aeq (n k:Int)(w:World)(hn:-9223372036854775808≤n∧n≤9223372036854775807):
  Calls Tryz.prog 100 #[.int .i64 n,.int .i64 k] w fun e w'=>∃ v,e=.returned (.tuple #[v,.int .i64 (numE n k)])∧Ow 5 w' w.heap.size v (numB n k)∧Kp w w':=by
 by_cases h1:1≤k∧k≤7
 ·have d1:decide (1≤k∧k≤7)=true:=by simp[h1]
  obtain ⟨k1,k7⟩:=h1;by_cases h2:n<0
  ·obtain ⟨e1,e2⟩:=ahL (n:=n) (w:=k) (by unfold aed;omega)
   rw[e1,e2];have d2:decide (n<0)=true:=by simp[h2]
   go_enter Tryz.func100,Tryz.ntmps100;go_wp2_with (go_at_call 134;refine (adm _ _).mono ?_;rintro e w' ⟨rfl,rfl⟩)
   go_ret2;exact ⟨_,rfl,Ow.nil _ _ _,Kp.refl _⟩
  ·obtain ⟨n,rfl⟩:=Int.eq_ofNat_of_zero_le (show 0≤n by omega)
   obtain ⟨k,rfl⟩:=Int.eq_ofNat_of_zero_le (show 0≤k by omega);have d2:decide ((n:Int)<0)=false:=by simp
   by_cases h3:n<256 ^ k
   ·obtain ⟨e1,e2⟩:=adP (n:=n) (w:=k) ⟨k1,k7,by omega,(ahV n k).2 h3⟩
    have E1:=Lib.hid e1;have E2:=Lib.hid e2;have d3:=ao4 n k h3;clear e1 e2 h3;go_enter Tryz.func100,Tryz.ntmps100;go_wp2_with (first | (go_at_call 134;refine (adm _ _).mono ?_;rintro e w' ⟨rfl,rfl⟩) | (go_at_call 135;refine (adG _ _ _ (by omega) (by omega) (by omega)).mono ?_;rintro e w' ⟨v,rfl,ho,hk⟩))
    go_ret2;rw[E1.out,E2.out];exact ⟨_,rfl,by simpa using ho,hk⟩
   ·obtain ⟨e1,e2⟩:=ahL (n:=n) (w:=k) (fun h=>h3 ((ahV n k).1 h.2.2.2))
    rw[e1,e2];have d3:=aqp n k h3;clear e1 e2 h3;go_enter Tryz.func100,Tryz.ntmps100;go_wp2_with (first | (go_at_call 134;refine (adm _ _).mono ?_;rintro e w' ⟨rfl,rfl⟩))
    go_ret2;exact ⟨_,rfl,Ow.nil _ _ _,Kp.refl _⟩
 ·have d1:decide (1≤k∧k≤7)=false:=by simp[h1]
  obtain ⟨e1,e2⟩:=ahL (n:=n) (w:=k) (by unfold aed;omega);rw[e1,e2];go_enter Tryz.func100,Tryz.ntmps100;go_wp2_with (go_at_call 134;refine (adm _ _).mono ?_;rintro e w' ⟨rfl,rfl⟩)
  go_ret2;exact ⟨_,rfl,Ow.nil _ _ _,Kp.refl _⟩
end Go.Proofs.YthmhklmkgkfcpaaGreatDoor
namespace Go.Proofs.YthmhklmkgkfcpaaGreatDoor
open Go.RowKit Go.Shelf
attribute [local go_sem] Oper.semAt_some
theorem alZ (k:Nat)(w:World):
  Calls Tryz.prog 199 #[.int .i64 k] w fun e w'=>e=.returned (.func (.func 234) #[] #[.pointer (some ⟨w.heap.size,0,none⟩)])∧w.alloc (.cells #[.int .i64 k] 3)=w':=by
 go_enter Tryz.func199,Tryz.ntmps199;go_wp2;go_ret;exact ⟨rfl,rfl⟩
theorem ajv (k N b:Nat)(w:World)(hk:1≤k∧k≤6)(hN:256 ^ k=N+1)(hw:w.cell? ⟨b,0,none⟩=some (.int .i64 k)):
  aoD Tryz.prog 234 #[.pointer (some ⟨b,0,none⟩)] (fun i v _ A=>Rd A v (be k (i+1))) N (fun j=>j=b) w:=by
 intro l J Jx W hh hl1 hl2 hJ hJx hY h0;have hbw:=hh.cell hw rfl;have HJ:=Lib.hid hJ;have HY:=Lib.hid hY;have hbb:b<w.heap.size:=World.block_lt_of_cell? w _ hw;have hbig:(N:Int)≤281474976710656:=by
  have h2:256 ^ k≤256 ^ 6:=Nat.pow_le_pow_right (by omega) hk.2;have h3:(256:Nat) ^ 6=281474976710656:=by decide
  omega
 have HN:Hid (∀ i,i<N→numE ((i:Int)+1) k=0∧numB ((i:Int)+1) k=be k (i+1)):=fun i hi=>by
  obtain ⟨h1,h2⟩:=adP (n:=(i:Int)+1) (w:=k) ⟨by omega,by omega,by omega,by
   have:=(ahV (i+1) k).2 (by omega);simpa using this⟩
  refine ⟨h1,h2.trans ?_⟩;congr 1
 have HE:Hid (numE ((N:Int)+1) k=1):=by
  refine (ahL (n:=(N:Int)+1) (w:=k) (fun h=>?_)).1;have:=(ahV (N+1) k).1 (by simpa using h.2.2.2);omega
 have HH:=Lib.hid (And.intro hw hbb);have HHeld:=Lib.hid hh;clear hJ hY hN hw;refine (callsIn_wide (n:=5)).1 ?_;refine callsIn_of_wp Tryz.func234 rfl trivial ?_ rfl;simp only[Tryz.ntmps234,List.append_toArray,List.append_nil,List.size_toArray,List.length_cons,List.length_nil,Nat.reduceAdd,Nat.reduceSub,Array.replicate_succ,Array.replicate_zero,List.push_toArray,List.nil_append,List.cons_append];gi_wp2
 gi_loopw [3] (fun p wr=>∃ (i:Nat) (Y:Nat→Prop),i≤N∧p=.int .i64 ((i:Int)+1)∧wr.cell? ⟨b,0,none⟩=some (.int .i64 k)∧Held (fun j=>j=b) w wr∧J i Y wr∧(∀ j,Y j→W.heap.size≤j∧j<wr.heap.size)∧W.heap.size≤wr.heap.size) (fun p _=>N+1 - (intOf p).toNat)
 case atStart=>exact ⟨0,_,by omega,rfl,hbw,HHeld.out,h0,fun _ h=>h.elim,Nat.le_refl _⟩
 case round=>
  clear hbw h0;obtain ⟨i,Y,hi,rfl,hb,hhw,hj,hyb,hsz⟩:=hrel;have hmx:Tryz.prog.follows .mixedOrders=true:=by kernel_rfl
  have hls:Tryz.prog.follows .lateStores=true:=by kernel_rfl
  by_cases hlt:i<N
  ·obtain ⟨e1,e2⟩:=HN.out i hlt
   gi_wp2_with (refine ⟨trivial,?_⟩;gi_at_call 100;refine (callsIn_wide.2 (aeq ((i:Int)+1) k _ (by omega))).mono ?_;rintro e w1 ⟨v1,rfl,o1,k1⟩;rw[e2] at o1;have hj1:=HJ.out i Y Y wr w1 hj hyb (Step.of_kp k1) (fun _ h=>.inl h);have hb1:=k1.cell hb;have hyb1:∀ j,Y j→W.heap.size≤j∧j<w1.heap.size:=(fun j h=>⟨(hyb j h).1,Nat.lt_of_lt_of_le (hyb j h).2 k1.size⟩);have hw1:=hhw.trans (Held.of_kp k1);have hs1:=k1.size;obtain ⟨fn,tmps,assign,body,hy,hR⟩:=HY.out i Y w1 v1 4 hlt hj1 hyb1 hw1 o1.rd)
   clear hj hb hyb hhw o1;refine hR.mono ?_;rintro e w2 ⟨hh2,(⟨rfl,hj2⟩ | ⟨rfl,hx2⟩)⟩
   ·have hb2:=hh2.cell hb1 (.inr rfl)
    clear hy hR hb1;gi_wp2
    go_roundw
    case rel=>exact ⟨i+1,Y,by omega,by go_num,hb2,hw1.trans (hh2.mono (fun _ h=>.inr h)),hj2,fun j h=>⟨(hyb1 j h).1,Nat.lt_of_lt_of_le (hyb1 j h).2 hh2.size⟩,by have:=hh2.size;omega⟩
    case measure=>simp[intOf];omega
   ·clear hy hR hb1
    gi_wp2
    refine bodyPost_ret (results_none rfl _ _ _) rfl ?_;exact ⟨⟨_,rfl⟩,Y,fun j h=>⟨(hyb1 j h).1,Nat.lt_of_lt_of_le (hyb1 j h).2 hh2.size⟩,.inr ⟨i,hlt,hx2⟩⟩
  ·obtain rfl:i=N:=by omega
   have e1:=HE.out;gi_wp2_with (refine ⟨trivial,?_⟩;gi_at_call 100;refine (callsIn_wide.2 (aeq ((i:Int)+1) k _ (by omega))).mono ?_;rintro e w1 ⟨v1,rfl,o1,k1⟩)
   refine ⟨fun _ h=>(by cases h),?_⟩;gi_wp2
   refine bodyPost_ret (results_none rfl _ _ _) rfl ?_;exact ⟨⟨_,rfl⟩,Y,fun j h=>⟨(hyb j h).1,Nat.lt_of_lt_of_le (hyb j h).2 k1.size⟩,.inl (HJ.out i Y Y wr w1 hj hyb (Step.of_kp k1) (fun _ h=>.inl h))⟩
end Go.Proofs.YthmhklmkgkfcpaaGreatDoor
namespace Go.Proofs.YthmhklmkgkfcpaaGreatDoor
open Go.RowKit
theorem Tryz.info24:(Tryz.prog.info? 24).map (fun i=>(i.zero,i.size,i.bytes))=some (some (.slice none 0 0),1,24):=by kernel_rfl
theorem apO:arJ Tryz.prog 115 24:=arJ.mk' Tryz.underlying115 Tryz.info24 (by decide) rfl
theorem ahW (vb v:Value)(lb:List UInt8)(ls:List (List UInt8))(w:World)(hb:Rd w vb lb)(h:RL w v ls)(hp:0<lb.length)(hl:lb.length+ls.flatten.length≤2000)(hn:ls.length<1000000):
  Calls Tryz.prog 235 #[vb,v] w fun e w'=>(∃ a c,e=.returned (.slice a 32 c)∧Ow 5 w' w.heap.size (.slice a 32 c) (aaI (lb++ls.flatten)))∧Kp w w':=by
 have S:=apO;obtain ⟨us,hv,hul,hr⟩:=h;have h1:∀ z∈us,z.oneCell'=true:=fun z hz=>by
  obtain ⟨i,hi,rfl⟩:=List.getElem_of_mem hz;have:=hr i (by omega);rw[List.getD_eq_getElem?_getD,List.getElem?_eq_getElem hi] at this;exact this.one
 have HU:=Lib.hid (And.intro hul h1);have hlen:us.length<1000000:=by omega
 have HR:=Lib.hid hr;clear hul h1 hr;obtain ⟨ab,cb,rfl,pb,qb⟩:=hb.shape;obtain ⟨av,cv,rfl,pv,qv⟩:=hv.shape;unfold maxLen at qb qv;have HO:=Lib.hid (af3 w 24 (.slice ab lb.length cb));go_enter Tryz.func235,Tryz.ntmps235;go_wp2_with (at_builtin;refine abM S rfl _ _ rfl w.heap.size _ [.slice ab lb.length cb] rfl HO.out _ us rfl (hv.kp ((Kp.refl _).alloc _)) HU.out.2 (by simp;omega) (by simp) ?_;intro v2 w2 ho2 hg2;have k2:Kp w w2:=Kp.grown ((Kp.refl _).alloc _) hg2 (by intro k e;cases e;exact Nat.le_refl _))
 have hRL:RL w2 v2 (lb :: ls):=RL.cons ho2 (hb.kp k2) HU.out.1 (fun i hi=>(HR.out i hi).kp k2);refine (ab0 v2 (lb :: ls) w2 hRL (by rw[List.flatten_cons,List.length_append];omega) (by rw[List.flatten_cons,List.length_append];omega) (by simp;omega)).mono ?_;rintro e w3 ⟨⟨v3,rfl,o3⟩,k3⟩;go_wp2_with fail;refine (anx v3 (lb :: ls).flatten _ o3.rd (by rw[List.flatten_cons,List.length_append];omega)).mono ?_;rintro e w4 ⟨⟨a4,c4,rfl,r4⟩,k4⟩;go_wp2_with fail;go_ret;exact ⟨⟨_,_,rfl,by simpa using r4.mono (k2.trans k3).size⟩,(k2.trans k3).trans k4⟩
theorem anC (vk v:Value)(k:List UInt8)(ls:List (List UInt8))(w:World)(hk:Rd w vk k)(h:RL w v ls)(hkl:k.length≤2000)(hl:ls.flatten.length≤1900)(hn:ls.length<1000000):
  Calls Tryz.prog 201 #[vk,v] w fun e w'=>(∃ a c,e=.returned (.slice a 32 c)∧Ow 5 w' w.heap.size (.slice a 32 c) (macB k ls.flatten))∧Kp w w':=by
 have S:=apO;have HK:=Lib.hid (adk k);have HM:Hid (macB k ls.flatten=aaI (xorB (keyB k) 92++aaI (xorB (keyB k) 54++ls.flatten))):=rfl;have HX:=Lib.hid (fun y:UInt8=>abH (keyB k) y);obtain ⟨K,hK⟩:∃ K,keyB k=K:=⟨_,rfl⟩;rw[hK] at HK HM HX;have HD:=Lib.hid aaQ;have MK:=Lib.hid (anz vk k w hk hkl);rw[hK] at MK;clear hK;go_enter Tryz.func201,Tryz.ntmps201;go_wp2_with fail;refine MK.out.mono ?_;rintro e w1 ⟨⟨g1,rfl,b1,_⟩,k1⟩;have r1:Rd w1 (.slice (some ⟨g1,0,none⟩) 64 64) K:=b1.rdAll (by rw[HK.out]) (Nat.le_refl _) (by unfold maxLen;omega);go_wp2_with fail;refine (ahU _ K 92 _ r1 (by rw[HK.out];omega)).mono ?_;rintro e w2 ⟨⟨g2,rfl,b2,_⟩,k2⟩;have r2:Rd w2 (.slice (some ⟨g2,0,none⟩) 64 64) (xorB K 92):=b2.rdAll (by rw[HX.out,HK.out]) (Nat.le_refl _) (by unfold maxLen;omega);have hlk:K.length=64:=HK.out;rw[hlk];clear hlk;go_wp2_with fail;refine (ahU _ K 54 _ (r1.kp k2) (by rw[HK.out];omega)).mono ?_;rintro e w3 ⟨⟨g3,rfl,b3,_⟩,k3⟩;have r3:Rd w3 (.slice (some ⟨g3,0,none⟩) 64 64) (xorB K 54):=b3.rdAll (by rw[HX.out,HK.out]) (Nat.le_refl _) (by unfold maxLen;omega);have hlk:K.length=64:=HK.out;rw[hlk];clear hlk;go_wp2_with fail;refine (ahW _ _ (xorB K 54) ls _ r3 (((h.kp k1).kp k2).kp k3) (by rw[HX.out,HK.out];omega) (by rw[HX.out,HK.out];omega) hn).mono ?_;rintro e w4 ⟨⟨a4,c4,rfl,r4⟩,k4⟩;have hRL:∀ W,Kp w4 W→W.ownsRow w4.heap.size 24 1 (.slice (some ⟨w4.heap.size,0,none⟩) 1 1) [Value.slice a4 32 c4].length [Value.slice a4 32 c4]→RL W (.slice (some ⟨w4.heap.size,0,none⟩) 1 1) [aaI (xorB K 54++ls.flatten)]:=fun W hW ho=>
  RL.cons (us:=[]) (ls:=[]) ho (r4.rd.kp hW) rfl (fun i hi=>by simp at hi)
 go_wp2_with fail;refine (ahW _ _ (xorB K 92) [aaI (xorB K 54++ls.flatten)] _ (((r2.kp k3).kp k4).kp ((Kp.refl _).alloc _)) (hRL _ ((Kp.refl _).alloc _) (af3 _ _ _)) (by rw[HX.out,HK.out];omega) (by rw[HX.out,HK.out];simp[HD.out]) (by simp)).mono ?_;rintro e w5 ⟨⟨a5,c5,rfl,r5⟩,k5⟩;go_wp2_with fail;go_ret;exact ⟨⟨_,_,rfl,by rw[HM.out];simpa using r5.mono ((((k1.trans k2).trans k3).trans k4).alloc _).size⟩,(((k1.trans k2).trans k3).trans k4).trans (((Kp.refl _).alloc _).trans k5)⟩
theorem aqr (vk v:Value)(k b:List UInt8)(w:World)(hk:Rd w vk k)(h:Rd w v b)(hkl:k.length≤2000)(hl:b.length≤1900):
  Calls Tryz.prog 171 #[vk,v] w fun e w'=>(∃ a c,e=.returned (.slice a 32 c)∧Ow 5 w' w.heap.size (.slice a 32 c) (macB k b))∧Kp w w':=by
 have hRL:∀ W,Kp w W→W.ownsRow w.heap.size 24 1 (.slice (some ⟨w.heap.size,0,none⟩) 1 1) [v].length [v]→RL W (.slice (some ⟨w.heap.size,0,none⟩) 1 1) [b]:=fun W hW ho=>
  RL.cons (us:=[]) (ls:=[]) ho (h.kp hW) rfl (fun i hi=>by simp at hi)
 obtain ⟨av,cv,rfl,pv,qv⟩:=h.shape;go_enter Tryz.func171,Tryz.ntmps171;go_wp2_with fail;refine (anC _ _ k [b] _ (hk.kp ((Kp.refl _).alloc _)) (hRL _ ((Kp.refl _).alloc _) (af3 _ _ _)) hkl (by simpa using hl) (by simp)).mono ?_;rintro e w5 ⟨⟨a5,c5,rfl,r5⟩,k5⟩;go_wp2_with fail;go_ret;exact ⟨⟨_,_,rfl,by simpa using r5.mono ((Kp.refl _).alloc _).size⟩,((Kp.refl _).alloc _).trans k5⟩
theorem anD (vk v:Value)(k:List UInt8)(ls:List (List UInt8))(w:World)(hk:Rd w vk k)(h:RL w v ls)(hkl:k.length≤2000)(hl:ls.flatten.length≤1900)(hn:ls.length<1000000):
  Calls Tryz.prog 200 #[vk,v] w fun e w'=>(∃ a c,e=.returned (.slice a 32 c)∧Ow 5 w' w.heap.size (.slice a 32 c) (macB k ls.flatten))∧Kp w w':=by
 go_enter Tryz.func200,Tryz.ntmps200;go_wp2_with fail;refine (anC _ _ k ls _ hk h hkl hl hn).mono ?_;rintro e w5 ⟨⟨a5,c5,rfl,r5⟩,k5⟩;go_wp2_with fail;go_ret;exact ⟨⟨_,_,rfl,r5⟩,k5⟩
theorem apm (l:List UInt8)(k:Nat):l++List.replicate k 0++[0]=l++List.replicate (k+1) 0:=by
 rw[List.append_assoc,List.replicate_succ']
theorem amq (v:Value)(l:List UInt8)(w:World)(h:Rd w v l)(hl:l.length≤2000):
  Calls Tryz.prog 184 #[v] w fun e w'=>(∃ v',e=.returned v'∧Ow 5 w' w.heap.size v' (keyB l))∧Kp w w':=by
 have U:=arN;obtain ⟨a,c,rfl,h1,h2⟩:=h.shape;unfold maxLen at h2;have HS:=Lib.hid apm;by_cases hlt:64<l.length
 ·have hK:keyB l=aaI l++List.replicate 32 0:=by unfold keyB blkB;rw[if_pos hlt,aaQ]
  rw[hK];have hR:=aaQ l;have hlt':64<(l.length:Int):=by omega
  obtain ⟨D,hD⟩:∃ D,aaI l=D:=⟨_,rfl⟩;obtain ⟨R,hRR⟩:∃ R:Nat,R=32:=⟨_,rfl⟩;have HO:=Lib.hid (afh (.slice a l.length c) l);rw[hD] at hR HO ⊢;rw[show List.replicate 32 (0:UInt8)=List.replicate R 0 from by rw[hRR]];have HR:Hid (D.length+R=64):=by show _=_;omega
  clear hK hD hR hRR;go_enter Tryz.func184,Tryz.ntmps184;go_wp2_with (at_builtin;refine aae U rfl _ _ rfl w.heap.size _ _ rfl (Ow.lit w 5 w.heap.size 0 #[] [] (Nat.le_refl _) rfl (by decide) rfl) _ l rfl (h.kp ((Kp.refl w).alloc _)) ?d1 ?d2 ?_;rotate_right;intro v2 w2 o2 g2 _;have k2:Kp w w2:=Kp.grown ((Kp.refl w).alloc _) g2 (by intro k e;cases e;exact Nat.le_refl _);clear g2)
  case d1=>simp;omega
  case d2=>simp
  refine (HO.out _ (h.kp k2) hl).mono ?_;rintro e wA ⟨⟨vA,rfl,oA0⟩,k3⟩;have oA:=oA0.mono k2.size;have kA:=k2.trans k3;clear oA0 o2 k2 k3;go_wp2_with fail;have o3':Ow 5 wA w.heap.size vA (D++List.replicate 0 0):=by simpa using oA
  clear oA;go_loopw[3] (fun v wr=>∃ k:Nat,k≤R∧Ow 5 wr w.heap.size v (D++List.replicate k 0)∧Kp w wr) (fun v _=>match v with | .slice _ n _=>64 - n | _=>0)
  case atStart=>exact ⟨0,by omega,o3',kA⟩
  case round=>
   clear o3' kA;obtain ⟨k,hk,ho,hkp⟩:=hrel;have hsz:=hkp.size;obtain ⟨av,cv,rfl,p1,p2⟩:=ho.rd.shape;have hlen:(D++List.replicate k 0).length=D.length+k:=by rw[List.length_append];simp
   rw[hlen] at p1 ⊢;rw[hlen] at ho;unfold maxLen at p2;by_cases hk2:k<R
   ·have HSk:=Lib.hid (HS.out D k)
    generalize D++List.replicate k 0=X at *;have HLN:=Lib.hid hlen;clear hlen;have hDR:=HR.out;have q:(D.length:Int)+(k:Int)<64:=by omega
    have q':D.length+k<64:=by omega
    clear hDR;go_wp2_with (at_builtin;refine aae U rfl _ _ rfl w.heap.size _ _ rfl (ho.kp ((Kp.refl _).alloc _)) _ [0] rfl (Ow.lit _ 5 0 1 _ _ (Nat.zero_le _) rfl (by decide) rfl).rd ?c1 ?c2 ?_;rotate_right;intro v' w2 ho2 hg _)
    case c1=>rw[HLN.out];simp;omega
    case c2=>simp;omega
    go_roundw
    case rel=>exact ⟨k+1,by omega,by rw[← HSk.out];exact ho2,Kp.grown (hkp.alloc _) hg ho.own_ge⟩
    case measure=>
     obtain ⟨a5,c5,rfl,_⟩:=ho2.rd.shape;rw[List.length_append,HLN.out];simp;omega
   ·obtain rfl:k=R:=by omega
    have hDR:=HR.out;have q:¬(D.length:Int)+(k:Int)<64:=by omega
    have q':¬D.length+k<64:=by omega
    clear hDR hlen;go_wp2_with fail;go_ret;exact ⟨⟨_,rfl,ho⟩,hkp⟩
 ·have hK:keyB l=l++List.replicate (64 - l.length) 0:=by unfold keyB blkB;rw[if_neg hlt]
  rw[hK];have hlt':¬64<(l.length:Int):=by omega
  obtain ⟨R,hRR⟩:∃ R:Nat,R=64 - l.length:=⟨_,rfl⟩;rw[← hRR];have HR:Hid (l.length+R=64):=by show _=_;omega
  clear hK hRR;go_enter Tryz.func184,Tryz.ntmps184;go_wp2_with (at_builtin;refine aae U rfl _ _ rfl w.heap.size _ _ rfl (Ow.lit w 5 w.heap.size 0 #[] [] (Nat.le_refl _) rfl (by decide) rfl) _ l rfl (h.kp ((Kp.refl w).alloc _)) ?d3 ?d4 ?_;rotate_right;intro v2 w2 o2 g2 _;have k2:Kp w w2:=Kp.grown ((Kp.refl w).alloc _) g2 (by intro k e;cases e;exact Nat.le_refl _);clear g2)
  case d3=>omega
  have oA:Ow 5 w2 w.heap.size v2 l:=by simpa using o2
  have kA:=k2;clear o2 k2;have o3':Ow 5 w2 w.heap.size v2 (l++List.replicate 0 0):=by simpa using oA
  clear oA;go_loopw[3] (fun v wr=>∃ k:Nat,k≤R∧Ow 5 wr w.heap.size v (l++List.replicate k 0)∧Kp w wr) (fun v _=>match v with | .slice _ n _=>64 - n | _=>0)
  case atStart=>exact ⟨0,by omega,o3',kA⟩
  case round=>
   clear o3' kA;obtain ⟨k,hk,ho,hkp⟩:=hrel;have hsz:=hkp.size;obtain ⟨av,cv,rfl,p1,p2⟩:=ho.rd.shape;have hlen:(l++List.replicate k 0).length=l.length+k:=by rw[List.length_append];simp
   rw[hlen] at p1 ⊢;rw[hlen] at ho;unfold maxLen at p2;by_cases hk2:k<R
   ·have HSk:=Lib.hid (HS.out l k)
    generalize l++List.replicate k 0=X at *;have HLN:=Lib.hid hlen;clear hlen;have hDR:=HR.out;have q:(l.length:Int)+(k:Int)<64:=by omega
    have q':l.length+k<64:=by omega
    clear hDR;go_wp2_with (at_builtin;refine aae U rfl _ _ rfl w.heap.size _ _ rfl (ho.kp ((Kp.refl _).alloc _)) _ [0] rfl (Ow.lit _ 5 0 1 _ _ (Nat.zero_le _) rfl (by decide) rfl).rd ?c3 ?c4 ?_;rotate_right;intro v' w2 ho2 hg _)
    case c3=>rw[HLN.out];simp;omega
    case c4=>simp;omega
    go_roundw
    case rel=>exact ⟨k+1,by omega,by rw[← HSk.out];exact ho2,Kp.grown (hkp.alloc _) hg ho.own_ge⟩
    case measure=>
     obtain ⟨a5,c5,rfl,_⟩:=ho2.rd.shape;rw[List.length_append,HLN.out];simp;omega
   ·obtain rfl:k=R:=by omega
    have hDR:=HR.out;have q:¬(l.length:Int)+(k:Int)<64:=by omega
    have q':¬l.length+k<64:=by omega
    clear hDR hlen;go_wp2_with fail;go_ret;exact ⟨⟨_,rfl,ho⟩,hkp⟩
theorem alA (v:Value)(l:List UInt8)(y:UInt8)(w:World)(h:Rd w v l)(hl:l.length≤1000000):
  Calls Tryz.prog 186 #[v,.int .u8 (y.toNat:Int)] w fun e w'=>(∃ v',e=.returned v'∧Ow 5 w' w.heap.size v' (xorB l y))∧Kp w w':=by
 have U:=arN;obtain ⟨a,c,rfl,h1,h2⟩:=h.shape;unfold maxLen at h2;have hx:∀ k,k<l.length→xorB (l.take (k+1)) y=xorB (l.take k) y++[l.getD k 0 ^^^ y]:=fun k hk=>by rw[aeB l k hk,akk];rfl
 have HX:=Lib.hid hx;clear hx;go_enter Tryz.func186,Tryz.ntmps186;go_wp2_with fail;go_loopw[5,6] (fun v i wr=>∃ k:Nat,k≤l.length∧i=.int .i64 k∧Ow 5 wr w.heap.size v (xorB (l.take k) y)∧Kp w wr) (fun _ i _=>l.length - (intOf i).toNat)
 case atStart=>exact ⟨0,by omega,rfl,Ow.nil _ _ _,Kp.refl _⟩
 case round=>
  obtain ⟨k,hk,rfl,ho,hkp⟩:=hrel;have hsz:=hkp.size;by_cases hlt:k<l.length
  ·obtain ⟨b,off,rfl,_,hcell⟩:=h.at k hlt
   have hc0:=hkp.cell (hcell k hlt);have hxo:=akl (l.getD k 0) y;have hlen:(xorB (l.take k) y).length=k:=by rw[abH];simp;omega
   have HXk:=Lib.hid (HX.out k hlt);generalize l.getD k 0=x at *;generalize hz:x ^^^ y=z at *;generalize xorB (l.take k) y=L at *;have HLN:=Lib.hid hlen;clear hlen hcell hz;go_wp2_with (at_builtin;refine aae U rfl _ _ rfl w.heap.size _ _ rfl (ho.kp ((Kp.refl _).alloc _)) _ [z] rfl (Ow.lit _ 5 0 1 _ _ (Nat.zero_le _) rfl (by decide) rfl).rd ?c1 ?c2 ?_;rotate_right;intro v' w2 ho2 hg _)
   case c1=>rw[HLN.out];simp;omega
   case c2=>simp;omega
   go_roundw
   case rel=>exact ⟨k+1,by omega,by go_num,by rw[HXk.out];exact ho2,Kp.grown (hkp.alloc _) hg ho.own_ge⟩
   case measure=>simp[intOf];omega
  ·obtain rfl:k=l.length:=by omega
   rw[List.take_length] at ho;go_wp2_with fail;go_ret;exact ⟨⟨_,rfl,ho⟩,hkp⟩
theorem amr (vk v:Value)(k b:List UInt8)(w:World)(hk:Rd w vk k)(h:Rd w v b)(hkl:k.length≤2000)(hl:b.length≤1900):
  Calls Tryz.prog 151 #[vk,v] w fun e w'=>(∃ v',e=.returned v'∧Ow 5 w' w.heap.size v' (macB k b))∧Kp w w':=by
 have U:=arN;obtain ⟨av,cv,rfl,pv,qv⟩:=h.shape;have HM:Hid (macB k b=aaI (xorB (keyB k) 92++aaI (xorB (keyB k) 54++b))):=rfl;have HK:=Lib.hid (adk k);have HX:=Lib.hid (fun y:UInt8=>abH (keyB k) y);obtain ⟨K,hK⟩:∃ K,keyB k=K:=⟨_,rfl⟩;have MK:=Lib.hid (amq vk k w hk hkl);rw[hK] at HK HM HX MK;have HD:=Lib.hid aaQ;clear hK;go_enter Tryz.func151,Tryz.ntmps151;go_wp2_with fail;refine MK.out.mono ?_;rintro e w1 ⟨⟨v1,rfl,o1⟩,k1⟩;go_wp2_with fail;refine (alA _ K 54 _ o1.rd (by rw[HK.out];omega)).mono ?_;rintro e w2 ⟨⟨v2,rfl,o2⟩,k2⟩;go_wp2_with (at_builtin;refine aae U rfl _ _ rfl w1.heap.size _ _ rfl o2 _ b rfl ((h.kp k1).kp k2) ?c1 k2.size ?_;rotate_right;intro v3 w3 o3 g3 _;have k3:Kp w1 w3:=Kp.grown k2 g3 o2.own_ge;clear g3)
 case c1=>rw[HX.out,HK.out];omega
 refine (afh _ _ _ o3.rd (by rw[List.length_append,HX.out,HK.out];omega)).mono ?_;rintro e w4 ⟨⟨v4,rfl,o4⟩,k4⟩;go_wp2_with fail;refine (alA _ K 92 _ (o1.rd.kp (k3.trans k4)) (by rw[HK.out];omega)).mono ?_;rintro e w5 ⟨⟨v5,rfl,o5⟩,k5⟩;go_wp2_with (at_builtin;refine aae U rfl _ _ rfl w4.heap.size _ _ rfl o5 _ (aaI (xorB K 54++b)) rfl (o4.rd.kp k5) ?c2 k5.size ?_;rotate_right;intro v6 w6 o6 g6 _;have k6:Kp w4 w6:=Kp.grown k5 g6 o5.own_ge;clear g6)
 case c2=>rw[HX.out,HK.out,HD.out];omega
 refine (afh _ _ _ o6.rd (by rw[List.length_append,HX.out,HK.out,HD.out];omega)).mono ?_;rintro e w7 ⟨⟨v7,rfl,o7⟩,k7⟩;go_wp2_with fail;go_ret;exact ⟨⟨_,rfl,by rw[HM.out];exact o7.mono (((k1.trans k3).trans k4).trans k6).size⟩,(((k1.trans k3).trans k4).trans k6).trans k7⟩
theorem aoh (i n:Nat)(x y z:UInt8)(p o b off c:Nat)(T1 T2:TypeId)(w:World)(hi:i<n)(hn:n≤c)(hc:c≤maxLen)(hp:One T1 w p (.int .u8 (z.toNat:Int)))(ho:One T2 w o (.slice (some ⟨b,off,none⟩) n c))
  (hcell:w.cell? ⟨b,off+i,none⟩=some (.int .u8 (y.toNat:Int))) (z':UInt8) (hz:z ||| (x ^^^ y)=z'):
  Calls Tryz.prog 261 #[.int .i64 i,.int .u8 (x.toNat:Int),.pointer (some ⟨p,0,none⟩),.pointer (some ⟨o,0,none⟩)] w fun e w'=>e=.returned (.tuple #[])∧∃ n,w'=(w.setCell ⟨p,0,none⟩ (.int .u8 (z'.toNat:Int))).drewN n:=by
 have cp:=hp.cell;have fp:=hp.frozen;have co:=ho.cell;have hb:=akl x y;have hb2:=ari z (x ^^^ y);rw[hz] at hb2;unfold maxLen at hc;have hi1:(i:Int)<(n:Int):=by omega
 have hi0:(0:Int)≤(i:Int):=by omega
 generalize z'.toNat=Z at *;generalize (x ^^^ y).toNat=XY at *;clear hz;go_enter Tryz.func261,Tryz.ntmps261;go_wp2_with fail;go_region
 all_goals
  go_end0
  exact ⟨rfl,1,rfl⟩
theorem apC (l m:List UInt8)(k:Nat):orT l m k ||| (l.getD k 0 ^^^ m.getD k 0)=orT l m (k+1):=rfl
theorem One.drewN {T:TypeId}{w:World}{p:Nat}{v:Value}(h:One T w p v)(n:Nat):One T (w.drewN n) p v:=h.kp ((Kp.refl w).drewN n)
theorem aiU (v arO:Value)(l m:List UInt8)(p o:Nat)(T1 T2:TypeId)(w w3:World)(h:Rd w v l)(hu:Rd w arO m)(hlm:l.length=m.length)(hk:Kp w w3)(hpw:w.heap.size≤p)
  (hp:One T1 w3 p (.int .u8 0)) (ho:One T2 w3 o arO) (hop:o≠p):
  Calls Tryz.prog 260 #[v,.func (.func 261) #[] #[.pointer (some ⟨p,0,none⟩),.pointer (some ⟨o,0,none⟩)]] w3 fun e w'=>e=.returned (.tuple #[])∧One T1 w' p (.int .u8 ((orT l m l.length).toNat:Int))∧Kp w w':=by
 obtain ⟨a,cc,rfl,h1,h2⟩:=h.shape;obtain ⟨a',c',rfl,h1',h2'⟩:=hu.shape;unfold maxLen at h2;have HLM:=Lib.hid hlm;have h0:One T1 w3 p (.int .u8 ((orT l m 0).toNat:Int)):=hp;have hlm':l.length≤m.length:=by omega
 clear hlm hp;go_enter Tryz.func260,Tryz.ntmps260;go_wp2_with fail;go_loopw[8] (fun i wr=>∃ k:Nat,k≤l.length∧i=.int .i64 k∧One T1 wr p (.int .u8 ((orT l m k).toNat:Int))∧Same (fun k=>k=p) w3 wr∧Kp w wr) (fun i _=>(l.length - (intOf i).toNat))
 case atStart=>exact ⟨0,by omega,rfl,h0,Same.refl _ _,hk⟩
 case round=>
  clear h0;obtain ⟨k,hkl,rfl,hB,hS,hkp⟩:=hrel;by_cases hlt:k<l.length
  ·obtain ⟨b,off,rfl,_,hcell⟩:=h.at k hlt
   obtain ⟨b',off',rfl,_,hcell'⟩:=hu.at k (by omega);have hc0:=hkp.cell (hcell k hlt);have hc0':=hkp.cell (hcell' k (by omega));have hor:=ho.same hS hop;have HX:=Lib.hid (aoh k m.length (l.getD k 0) (m.getD k 0) (orT l m k) p o b' off' c' T1 T2 wr (by omega) h1' h2' hB hor hc0' _ (apC l m k));clear hcell hcell' hc0';generalize hx:l.getD k 0=x at *;clear hx;go_wp2_with (go_at_call 261;refine HX.out.mono ?_;rintro e w4 ⟨rfl,n4,rfl⟩)
   go_roundw
   case rel=>exact ⟨k+1,by omega,by go_num,(hB.set _).drewN _,(hS.setCell _ _ rfl).drewN _,Kp.drewN (Below.setCell hkp hpw _) _⟩
   case measure=>simp[intOf];omega
  ·obtain rfl:k=l.length:=by omega
   go_wp2_with fail;go_end0
   exact ⟨rfl,hB,hkp⟩
theorem apD (arO v:Value)(l m:List UInt8)(w:World)(h:Rd w arO l)(h':Rd w v m):
  Calls Tryz.prog 233 #[arO,v] w fun e w'=>e=.returned (.bool (decide (l=m)))∧Kp w w':=by
 obtain ⟨a,c,rfl,h1,h2⟩:=h.shape;obtain ⟨a',c',rfl,h1',h2'⟩:=h'.shape;unfold maxLen at h2 h2';have ho0:One 24 (w.alloc (.cells #[.slice a' m.length c'] 24)) w.heap.size (.slice a' m.length c'):=One.new _ _ _;have HO:=Lib.hid ho0;have co:=ho0.cell;clear ho0;by_cases hlm:l.length=m.length
 ·have d0:((l.length:Int) != (m.length:Int))=false:=by simp[hlm]
  have d1:(l.length != m.length)=false:=by simp[hlm]
  have HA:=Lib.hid (aqm l m hlm);have HL:=Lib.hid hlm;clear hlm;go_enter Tryz.func233,Tryz.ntmps233;go_wp2_with fail;have hp1:One 5 ((w.alloc (.cells #[.slice a' m.length c'] 24)).alloc (.cells #[.int .u8 0] 5)) (w.heap.size+1) (.int .u8 0):=by
   have:=One.new 5 (w.alloc (.cells #[.slice a' m.length c'] 24)) (.int .u8 0);rwa [World.size_alloc] at this
  refine (aiU _ _ l m (w.heap.size+1) w.heap.size _ _ w _ h h' HL.out (((Kp.refl _).alloc _).alloc _) (by omega) hp1 (HO.out.kp ((Kp.refl _).alloc _)) (by omega)).mono ?_;rintro e w4 ⟨rfl,hp4,hk4⟩;have c4:=hp4.cell;have hz:((((orT l m l.length).toNat:Nat):Int)==0)=decide (l=m):=by
   rw[← HA.out,Bool.eq_iff_iff];simp[← UInt8.toNat_inj]
  generalize (orT l m l.length).toNat=Z at *;have HZ:=Lib.hid hz;clear hz;go_wp2_with fail;go_ret;exact ⟨by rw[← HZ.out];rfl,hk4⟩
 ·have d0:((l.length:Int) != (m.length:Int))=true:=by simp;omega
  have d1:(l.length != m.length)=true:=by simp[hlm]
  have hne:decide (l=m)=false:=decide_eq_false (fun e=>hlm (by rw[e]));rw[hne];clear hne hlm;go_enter Tryz.func233,Tryz.ntmps233;go_wp2_with fail;go_ret;exact ⟨rfl,(Kp.refl _).alloc _⟩
end Go.Proofs.YthmhklmkgkfcpaaGreatDoor
