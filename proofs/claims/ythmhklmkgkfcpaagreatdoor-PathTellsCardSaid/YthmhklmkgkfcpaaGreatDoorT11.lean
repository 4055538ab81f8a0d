import Derived.Test.YthmhklmkgkfcpaaGreatDoorT1
import Derived.Test.YthmhklmkgkfcpaaGreatDoorT2
import Derived.Test.YthmhklmkgkfcpaaGreatDoorT3
import Derived.Test.YthmhklmkgkfcpaaGreatDoorT7
import Derived.RegionTactic
import Derived.BigRegion
import Derived.Deep.QuietTactic
import Derived.BigQuiet
set_option linter.unusedVariables false
set_option linter.unusedSimpArgs false
set_option maxHeartbeats 8000000
set_option maxRecDepth 100000
namespace Go.Proofs.YthmhklmkgkfcpaaGreatDoor
open Go.RowKit
theorem One.same {T:TypeId}{X:Nat→Prop}{w w':World}{p:Nat}{v:Value}(h:One T w p v)(k:Same X w w')(hx:¬X p):One T w' p v:=(k.block p h.lt hx).trans h
theorem apf (i n c:Nat)(x y:UInt8)(p o g:Nat)(T1 T2:TypeId)(m:List UInt8)(w:World)(hi:i<m.length)(hn:m.length=n)(hp:One T1 w p (.int .u8 (y.toNat:Int)))(ho:One T2 w o (.slice (some ⟨g,0,none⟩) n c))(hg:By 5 w g m)(hnm:n≤1000000):
  Calls Tryz.prog 262 #[.int .i64 i,.int .u8 (x.toNat:Int),.pointer (some ⟨p,0,none⟩),.pointer (some ⟨o,0,none⟩)] w fun e w'=>e=.returned (.tuple #[])∧w.setCell ⟨g,i,none⟩ (.int .u8 ((x ^^^ y).toNat:Int))=w':=by
 have cp:=hp.cell;have co:=ho.cell;have cg:=hg.cell i hi;have fg:=hg.frozen i;have hb:=aky x y;have hin:i<n:=by omega
 obtain ⟨z,hz⟩:∃ z:Int,z=((x ^^^ y).toNat:Int):=⟨_,rfl⟩;rw[← hz] at hb ⊢;clear hz hn;go_enter Tryz.func262,Tryz.ntmps262;go_wp2_with fail;go_end0
 exact ⟨rfl,rfl⟩
theorem apg (l:List UInt8)(y:UInt8)(k:Nat)(h:k<l.length):(mixB (List.replicate l.length 0) (xorB l y) k).set k (l.getD k 0 ^^^ y)=mixB (List.replicate l.length 0) (xorB l y) (k+1):=
 acm _ _ k (by simp[abD]) (by simpa using h) _ (apa l y k h)
theorem ajF (v:Value)(l:List UInt8)(y:UInt8)(p o g c:Nat)(T1 T2:TypeId)(w w3:World)(h:Rd w v l)(hl:l.length≤1000000)(hk:Kp w w3)(hgw:w.heap.size≤g)
  (hp:One T1 w3 p (.int .u8 (y.toNat:Int))) (ho:One T2 w3 o (.slice (some ⟨g,0,none⟩) l.length c)) (hpg:p≠g) (hog:o≠g) (hg:By 5 w3 g (List.replicate l.length 0)):
  Calls Tryz.prog 260 #[v,.func (.func 262) #[] #[.pointer (some ⟨p,0,none⟩),.pointer (some ⟨o,0,none⟩)]] w3 fun e w'=>e=.returned (.tuple #[])∧By 5 w' g (xorB l y)∧Same (fun k=>k=g) w3 w'∧Kp w w':=by
 obtain ⟨a,cc,rfl,h1,h2⟩:=h.shape;unfold maxLen at h2;have HS:=Lib.hid (apg l y);have hall:mixB (List.replicate l.length 0) (xorB l y) l.length=xorB l y:=by
  have:=adi (List.replicate l.length 0) (xorB l y) (by simp[abD]);rwa [abD] at this
 have HA:=Lib.hid hall;have h00:mixB (List.replicate l.length 0) (xorB l y) 0=List.replicate l.length 0:=by simp[mixB]
 have hg0:By 5 w3 g (mixB (List.replicate l.length 0) (xorB l y) 0):=by rw[h00];exact hg
 have HL:Hid (∀ k,k≤l.length→(mixB (List.replicate l.length 0) (xorB l y) k).length=l.length):=fun k hk=>by
  rw[aaV _ _ _ (by simp[abD]) (by simpa using hk)];simp
 clear hall h00 hg;go_enter Tryz.func260,Tryz.ntmps260;go_wp2_with fail;go_loopw[8] (fun i wr=>∃ k:Nat,k≤l.length∧i=.int .i64 k∧By 5 wr g (mixB (List.replicate l.length 0) (xorB l y) k)∧Same (fun k=>k=g) w3 wr∧Kp w wr) (fun i _=>(l.length - (intOf i).toNat))
 case atStart=>exact ⟨0,by omega,rfl,hg0,Same.refl _ _,hk⟩
 case round=>
  clear hg0;obtain ⟨k,hkl,rfl,hB,hS,hkp⟩:=hrel;by_cases hlt:k<l.length
  ·obtain ⟨b,off,rfl,_,hcell⟩:=h.at k hlt
   have hc0:=hkp.cell (hcell k hlt);have hpr:=hp.same hS hpg;have hor:=ho.same hS hog;have HX:=Lib.hid (apf k l.length c (l.getD k 0) y p o g T1 T2 _ wr (by rw[HL.out k hkl];exact hlt) (HL.out k hkl) hpr hor hB hl);have hst:=HS.out k hlt;have HST:=Lib.hid hst;clear hst hcell;generalize hx:l.getD k 0=x at *;clear hx;go_wp2_with (go_at_call 262;refine HX.out.mono ?_;rintro e w4 ⟨rfl,rfl⟩)
   go_roundw
   case rel=>exact ⟨k+1,by omega,by go_num,hB.set k _ HST.out,hS.setCell _ _ rfl,Below.setCell hkp hgw _⟩
   case measure=>simp[intOf];omega
  ·obtain rfl:k=l.length:=by omega
   go_wp2_with fail;go_end0
   exact ⟨rfl,by rw[← HA.out];exact hB,hS,hkp⟩
theorem ah4 (v:Value)(l:List UInt8)(y:UInt8)(w:World)(h:Rd w v l)(hl:l.length≤1000000):
  Calls Tryz.prog 236 #[v,.int .u8 (y.toNat:Int)] w fun e w'=>(∃ g,e=.returned (.slice (some ⟨g,0,none⟩) l.length l.length)∧By 5 w' g (xorB l y)∧w.heap.size≤g)∧Kp w w':=by
 obtain ⟨a,cc,rfl,h1,h2⟩:=h.shape;unfold maxLen at h2;have hp0:One 5 (w.alloc (.cells #[.int .u8 (y.toNat:Int)] 5)) w.heap.size (.int .u8 (y.toNat:Int)):=One.new _ _ _;have hf0:∀ W,W=(w.alloc (.cells #[.int .u8 (y.toNat:Int)] 5)).alloc (.cells (Array.replicate l.length (.int .u8 0)) 5)→By 5 W (w.heap.size+1) (List.replicate l.length 0):=fun W hW=>by
  subst hW;have:=By.fresh 5 (w.alloc (.cells #[.int .u8 (y.toNat:Int)] 5)) l.length;rwa [World.size_alloc] at this
 have HF:=Lib.hid hf0;have HP:=Lib.hid hp0;clear hf0 hp0;go_enter Tryz.func236,Tryz.ntmps236;go_wp2_with (at_make;refine aaS (z:=.int .u8 0) (b:=1) Tryz.underlying24 Tryz.info5 rfl (by decide) rfl _ _ rfl l.length rfl rfl hl ?_;intro w1 hw1;have hg1:=HF.out w1 hw1;have hp1:One 5 w1 w.heap.size (.int .u8 (y.toNat:Int)):=(by rw[hw1];exact HP.out.kp ((Kp.refl _).alloc _));have hk1:Kp w w1:=(by rw[hw1];exact ((Kp.refl w).alloc _).alloc _);have hs1:=hg1.lt;clear hw1)
 have ho3:One 24 (w1.alloc (.cells #[.slice (some ⟨w.heap.size+1,0,none⟩) l.length l.length] 24)) w1.heap.size (.slice (some ⟨w.heap.size+1,0,none⟩) l.length l.length):=One.new _ _ _;refine (ajF _ l y w.heap.size w1.heap.size (w.heap.size+1) l.length _ _ w _ h hl (hk1.alloc _) (by omega) (hp1.kp ((Kp.refl _).alloc _)) ho3 (by omega) (by omega) (hg1.kp ((Kp.refl _).alloc _))).mono ?_;rintro e w4 ⟨rfl,hg4,hS4,hk4⟩;have ho4:=(ho3.same hS4 (by omega)).cell;clear ho3;go_wp2_with fail;go_ret;exact ⟨⟨_,rfl,hg4,by omega⟩,hk4⟩
theorem adn (x:Int)(w:World):
  Calls Tryz.prog 134 #[.int .i64 x] w fun e w'=>e=.returned (.bool (decide (1≤x∧x≤7)))∧w=w':=by
 by_cases h1:1≤x
 ·have e:decide (1≤x∧x≤7)=decide (x≤7):=by simp[h1]
  rw[e];go_enter Tryz.func134,Tryz.ntmps134;go_wp2;go_ret;exact ⟨rfl,rfl⟩
 ·have e:decide (1≤x∧x≤7)=false:=by simp[h1]
  go_enter Tryz.func134,Tryz.ntmps134;go_wp2;go_ret;exact ⟨by simp,rfl⟩
theorem pow8 (k:Nat):(2:Int) ^ (8*k)=((256 ^ k:Nat):Int):=by
 rw[Nat.pow_mul' 2 8 k |> fun _=>show (256:Nat) ^ k=2 ^ (8*k) from by rw[Nat.pow_mul]];push_cast;rfl
theorem ah5 (n k:Nat):(n:Int)<256 ^ (k:Int).toNat↔n<256 ^ k:=by
 rw[Int.toNat_natCast,← Int.ofNat_lt,Int.natCast_pow];rfl
theorem aph (n k:Nat)(h:n<256 ^ k):((n:Int) / 2 ^ (8*k) != 0)=false:=by
 rw[pow8,← Int.natCast_ediv,Nat.div_eq_of_lt h];rfl
theorem aqF (n k:Nat)(h:¬n<256 ^ k):((n:Int) / 2 ^ (8*k) != 0)=true:=by
 rw[pow8,← Int.natCast_ediv,bne_iff_ne];have:0<n / 256 ^ k:=Nat.div_pos (by omega) (Nat.pos_of_ne_zero (by simp));omega
theorem aez (n k:Int)(w:World)(hn:-9223372036854775808≤n∧n≤9223372036854775807):
  Calls Tryz.prog 100 #[.int .i64 n,.int .i64 k] w fun e w'=>∃ v,e=.returned (.tuple #[v,.int .i64 (numE n k)])∧Ow 5 w' w.heap.size v (numB n k)∧Kp w w':=by
 by_cases h1:1≤k∧k≤7
 ·have d1:decide (1≤k∧k≤7)=true:=by simp[h1]
  obtain ⟨k1,k7⟩:=h1;by_cases h2:n<0
  ·obtain ⟨e1,e2⟩:=ahT (n:=n) (w:=k) (by unfold ael;omega)
   rw[e1,e2];have d2:decide (n<0)=true:=by simp[h2]
   go_enter Tryz.func100,Tryz.ntmps100;go_wp2_with (go_at_call 134;refine (adn _ _).mono ?_;rintro e w' ⟨rfl,rfl⟩)
   go_ret2;exact ⟨_,rfl,Ow.nil _ _ _,Kp.refl _⟩
  ·obtain ⟨n,rfl⟩:=Int.eq_ofNat_of_zero_le (show 0≤n by omega)
   obtain ⟨k,rfl⟩:=Int.eq_ofNat_of_zero_le (show 0≤k by omega);have d2:decide ((n:Int)<0)=false:=by simp
   by_cases h3:n<256 ^ k
   ·obtain ⟨e1,e2⟩:=adV (n:=n) (w:=k) ⟨k1,k7,by omega,(ah5 n k).2 h3⟩
    have E1:=Lib.hid e1;have E2:=Lib.hid e2;have d3:=aph n k h3;clear e1 e2 h3;go_enter Tryz.func100,Tryz.ntmps100;go_wp2_with (first | (go_at_call 134;refine (adn _ _).mono ?_;rintro e w' ⟨rfl,rfl⟩) | (go_at_call 135;refine (adK _ _ _ (by omega) (by omega) (by omega)).mono ?_;rintro e w' ⟨v,rfl,ho,hk⟩))
    go_ret2;rw[E1.out,E2.out];exact ⟨_,rfl,by simpa using ho,hk⟩
   ·obtain ⟨e1,e2⟩:=ahT (n:=n) (w:=k) (fun h=>h3 ((ah5 n k).1 h.2.2.2))
    rw[e1,e2];have d3:=aqF n k h3;clear e1 e2 h3;go_enter Tryz.func100,Tryz.ntmps100;go_wp2_with (first | (go_at_call 134;refine (adn _ _).mono ?_;rintro e w' ⟨rfl,rfl⟩))
    go_ret2;exact ⟨_,rfl,Ow.nil _ _ _,Kp.refl _⟩
 ·have d1:decide (1≤k∧k≤7)=false:=by simp[h1]
  obtain ⟨e1,e2⟩:=ahT (n:=n) (w:=k) (by unfold ael;omega);rw[e1,e2];go_enter Tryz.func100,Tryz.ntmps100;go_wp2_with (go_at_call 134;refine (adn _ _).mono ?_;rintro e w' ⟨rfl,rfl⟩)
  go_ret2;exact ⟨_,rfl,Ow.nil _ _ _,Kp.refl _⟩
end Go.Proofs.YthmhklmkgkfcpaaGreatDoor
namespace Go.Proofs.YthmhklmkgkfcpaaGreatDoor
open Go.RowKit Go.Shelf
attribute [local go_sem] Oper.semAt_some
theorem al9 (k:Nat)(w:World):
  Calls Tryz.prog 199 #[.int .i64 k] w fun e w'=>e=.returned (.func (.func 234) #[] #[.pointer (some ⟨w.heap.size,0,none⟩)])∧w.alloc (.cells #[.int .i64 k] 3)=w':=by
 go_enter Tryz.func199,Tryz.ntmps199;go_wp2;go_ret;exact ⟨rfl,rfl⟩
theorem ajH (k N b:Nat)(w:World)(hk:1≤k∧k≤6)(hN:256 ^ k=N+1)(hw:w.cell? ⟨b,0,none⟩=some (.int .i64 k)):
  aoQ Tryz.prog 234 #[.pointer (some ⟨b,0,none⟩)] (fun i v _ A=>Rd A v (be k (i+1))) N (fun j=>j=b) w:=by
 intro l J Jx W hh hl1 hl2 hJ hJx hY h0;have hbw:=hh.cell hw rfl;have HJ:=Lib.hid hJ;have HY:=Lib.hid hY;have hbb:b<w.heap.size:=World.block_lt_of_cell? w _ hw;have hbig:(N:Int)≤281474976710656:=by
  have h2:256 ^ k≤256 ^ 6:=Nat.pow_le_pow_right (by omega) hk.2;have h3:(256:Nat) ^ 6=281474976710656:=by decide
  omega
 have HN:Hid (∀ i,i<N→numE ((i:Int)+1) k=0∧numB ((i:Int)+1) k=be k (i+1)):=fun i hi=>by
  obtain ⟨h1,h2⟩:=adV (n:=(i:Int)+1) (w:=k) ⟨by omega,by omega,by omega,by
   have:=(ah5 (i+1) k).2 (by omega);simpa using this⟩
  refine ⟨h1,h2.trans ?_⟩;congr 1
 have HE:Hid (numE ((N:Int)+1) k=1):=by
  refine (ahT (n:=(N:Int)+1) (w:=k) (fun h=>?_)).1;have:=(ah5 (N+1) k).1 (by simpa using h.2.2.2);omega
 have HH:=Lib.hid (And.intro hw hbb);have HHeld:=Lib.hid hh;clear hJ hY hN hw;refine (callsIn_wide (n:=5)).1 ?_;refine callsIn_of_wp Tryz.func234 rfl trivial ?_ rfl;simp only[Tryz.ntmps234,List.append_toArray,List.append_nil,List.size_toArray,List.length_cons,List.length_nil,Nat.reduceAdd,Nat.reduceSub,Array.replicate_succ,Array.replicate_zero,List.push_toArray,List.nil_append,List.cons_append];gi_wp2
 gi_loopw [3] (fun p wr=>∃ (i:Nat) (Y:Nat→Prop),i≤N∧p=.int .i64 ((i:Int)+1)∧wr.cell? ⟨b,0,none⟩=some (.int .i64 k)∧Held (fun j=>j=b) w wr∧J i Y wr∧(∀ j,Y j→W.heap.size≤j∧j<wr.heap.size)∧W.heap.size≤wr.heap.size) (fun p _=>N+1 - (intOf p).toNat)
 case atStart=>exact ⟨0,_,by omega,rfl,hbw,HHeld.out,h0,fun _ h=>h.elim,Nat.le_refl _⟩
 case round=>
  clear hbw h0;obtain ⟨i,Y,hi,rfl,hb,hhw,hj,hyb,hsz⟩:=hrel;have hmx:Tryz.prog.follows .mixedOrders=true:=by kernel_rfl
  have hls:Tryz.prog.follows .lateStores=true:=by kernel_rfl
  by_cases hlt:i<N
  ·obtain ⟨e1,e2⟩:=HN.out i hlt
   gi_wp2_with (refine ⟨trivial,?_⟩;gi_at_call 100;refine (callsIn_wide.2 (aez ((i:Int)+1) k _ (by omega))).mono ?_;rintro e w1 ⟨v1,rfl,o1,k1⟩;rw[e2] at o1;have hj1:=HJ.out i Y Y wr w1 hj hyb (Step.of_kp k1) (fun _ h=>.inl h);have hb1:=k1.cell hb;have hyb1:∀ j,Y j→W.heap.size≤j∧j<w1.heap.size:=(fun j h=>⟨(hyb j h).1,Nat.lt_of_lt_of_le (hyb j h).2 k1.size⟩);have hw1:=hhw.trans (Held.of_kp k1);have hs1:=k1.size;obtain ⟨fn,tmps,assign,body,hy,hR⟩:=HY.out i Y w1 v1 4 hlt hj1 hyb1 hw1 o1.rd)
   clear hj hb hyb hhw o1;refine hR.mono ?_;rintro e w2 ⟨hh2,(⟨rfl,hj2⟩ | ⟨rfl,hx2⟩)⟩
   ·have hb2:=hh2.cell hb1 (.inr rfl)
    clear hy hR hb1;gi_wp2
    go_roundw
    case rel=>exact ⟨i+1,Y,by omega,by go_num,hb2,hw1.trans (hh2.mono (fun _ h=>.inr h)),hj2,fun j h=>⟨(hyb1 j h).1,Nat.lt_of_lt_of_le (hyb1 j h).2 hh2.size⟩,by have:=hh2.size;omega⟩
    case measure=>simp[intOf];omega
   ·clear hy hR hb1
    gi_wp2
    refine bodyPost_ret (results_none rfl _ _ _) rfl ?_;exact ⟨⟨_,rfl⟩,Y,fun j h=>⟨(hyb1 j h).1,Nat.lt_of_lt_of_le (hyb1 j h).2 hh2.size⟩,.inr ⟨i,hlt,hx2⟩⟩
  ·obtain rfl:i=N:=by omega
   have e1:=HE.out;gi_wp2_with (refine ⟨trivial,?_⟩;gi_at_call 100;refine (callsIn_wide.2 (aez ((i:Int)+1) k _ (by omega))).mono ?_;rintro e w1 ⟨v1,rfl,o1,k1⟩)
   refine ⟨fun _ h=>(by cases h),?_⟩;gi_wp2
   refine bodyPost_ret (results_none rfl _ _ _) rfl ?_;exact ⟨⟨_,rfl⟩,Y,fun j h=>⟨(hyb j h).1,Nat.lt_of_lt_of_le (hyb j h).2 k1.size⟩,.inl (HJ.out i Y Y wr w1 hj hyb (Step.of_kp k1) (fun _ h=>.inl h))⟩
end Go.Proofs.YthmhklmkgkfcpaaGreatDoor
namespace Go.Proofs.YthmhklmkgkfcpaaGreatDoor
open Go.RowKit
theorem agD (k:Int)(w:World)(h:k≤7):
  Calls Tryz.prog 110 #[.int .i64 k] w fun e w'=>e=.returned (.int .i64 (pw k.toNat))∧w=w':=by
 by_cases h0:0≤k
 ·obtain ⟨k,rfl⟩:=Int.eq_ofNat_of_zero_le h0
  rw[Int.toNat_natCast];go_enter Tryz.func110,Tryz.ntmps110;go_wp2;go_loop [3,4] (fun n i=>∃ j:Nat,j≤k∧i=.int .i64 j∧n=.int .i64 (pw j)) (fun _ i=>k - (intOf i).toNat)
  case atStart=>exact ⟨0,Nat.zero_le _,rfl,rfl⟩
  case round=>
   obtain ⟨j,hj,rfl,rfl⟩:=hrel;by_cases hlt:j<k
   ·have hb:=arh j (by omega)
    have hs:=Lib.hid (am3 j);go_wp2;go_round
    case rel=>exact ⟨j+1,by omega,by go_num,by rw[hs.out];go_num⟩
    case measure=>simp[intOf];omega
   ·go_wp2
    go_ret;have:j=k:=by omega
    subst this;exact ⟨rfl,rfl⟩
 ·have e:k.toNat=0:=by omega
  rw[e];go_enter Tryz.func110,Tryz.ntmps110;go_wp2;refine wp_loop_rounds 1 ?_;rw[rounds_succ];go_wp2;go_ret;exact ⟨rfl,rfl⟩
theorem aqI (k t n:Nat)(h:t<k):be (k - t) (n / pw t)=be (k - (t+1)) (n / pw (t+1))++[UInt8.ofNat (n / pw t)]:=by
 obtain ⟨m,rfl⟩:∃ m,k=t+1+m:=⟨k - (t+1),by omega⟩;rw[show t+1+m - t=m+1 from by omega,show t+1+m - (t+1)=m from by omega,be,am3,Nat.mul_comm 256,← Nat.div_div_eq_div_mul]
theorem ah7 (n k:Int)(w:World)(hn:-9223372036854775808≤n∧n≤9223372036854775807):
  Calls Tryz.prog 62 #[.int .i64 n,.int .i64 k] w fun e w'=>∃ v,e=.returned (.tuple #[v,.int .i64 (numE n k)])∧Ow 5 w' w.heap.size v (numB n k)∧Kp w w':=by
 have U:=ar0;by_cases h1:ael n k
 ·obtain ⟨e1,e2⟩:=adV h1
  have E1:=Lib.hid e1;have E2:=Lib.hid e2;clear e1 e2;obtain ⟨k1,k7,n0,hlt⟩:=h1;obtain ⟨n,rfl⟩:=Int.eq_ofNat_of_zero_le n0;obtain ⟨k,rfl⟩:=Int.eq_ofNat_of_zero_le (show 0≤k by omega);have hlt':n<pw k:=(ah5 n k).1 hlt;clear hlt;have hdk:decide (pw k≤n)=false:=by simp;omega
  generalize hB:w.heap.size=B at *;have HB:=Lib.hid hB;clear hB;go_enter Tryz.func62,Tryz.ntmps62;go_wp2_with (go_at_call 110;refine (agD _ _ k7).mono ?_;rintro e w' ⟨rfl,rfl⟩;rw[Int.toNat_natCast])
  go_loopw[6,7] (fun v i wr=>∃ t:Nat,t≤k∧i=.int .i64 ((t:Int) - 1)∧Ow 5 wr B v (be (k - t) (n / pw t))∧Below B w wr) (fun _ i _=>(intOf i+1).toNat)
  case atStart=>exact ⟨k,Nat.le_refl _,rfl,by rw[Nat.sub_self];exact Ow.nil _ _ _,Below.refl _ _⟩
  case round=>
   obtain ⟨t,ht,rfl,hown,hbel⟩:=hrel;cases t with
   | zero=>
    go_wp2_with fail;go_ret2;rw[E1.out,E2.out];exact ⟨_,rfl,by simpa [pw] using hown,hbel.mono (by rw[HB.out];exact Nat.le_refl _)⟩
   | succ t=>
    rw[show ((t+1:Nat):Int) - 1=t from by omega];have hp:=arg t;have hb:=pw_le t (by omega);have hB:=hbel.size;have hBw:B≤wr.heap.size:=by rw[← HB.out];exact hB
    obtain ⟨q,hq⟩:∃ q:Nat,q=n / pw t:=⟨_,rfl⟩;have hqn:q≤n:=by rw[hq];exact Nat.div_le_self _ _
    have hd:(n:Int) / (pw t:Int)=(q:Int):=by rw[hq];rfl
    have HQ:=Lib.hid hq;clear hq;go_wp2_with (first
     | (go_at_call 110;refine (agD _ _ (by omega)).mono ?_;rintro e w' ⟨rfl,rfl⟩;rw[Int.toNat_natCast])
     | (at_builtin;refine aae U rfl _ _ rfl B _ _ rfl (hown.kp ((Kp.refl _).alloc _)) _ [UInt8.ofNat q] rfl ?c1 ?c2 ?c3 ?_))
    case c1=>exact Rd.box _ _ _ _ (by simp)
    case c2=>rw[aak];simp;omega
    case c3=>simp;omega
    intro v' w1 hown1 hg _;have hb1:Below B w w1:=Below.grown' (hbel.alloc hBw _) hg (by simp;omega) (hown.kp ((Kp.refl _).alloc _));clear hg hown;go_wp2;go_roundw
    case rel=>exact ⟨t,by omega,rfl,by rw[aqI k t n (by omega),← HQ.out];exact hown1,hb1⟩
    case measure=>simp[intOf]
 ·obtain ⟨e1,e2⟩:=ahT h1
  rw[e1,e2];clear e1 e2;by_cases h2:k<1
  ·have d2:decide (k<1)=true:=by simp[h2]
   go_enter Tryz.func62,Tryz.ntmps62;go_wp2_with fail;go_ret2;exact ⟨_,rfl,Ow.nil _ _ _,Kp.refl _⟩
  ·have d2:decide (k<1)=false:=by simp[h2]
   by_cases h3:7<k
   ·have d3:decide (7<k)=true:=by simp[h3]
    go_enter Tryz.func62,Tryz.ntmps62;go_wp2_with fail;go_ret2;exact ⟨_,rfl,Ow.nil _ _ _,Kp.refl _⟩
   ·have d3:decide (7<k)=false:=by simp[h3]
    by_cases h4:n<0
    ·have d4:decide (n<0)=true:=by simp[h4]
     go_enter Tryz.func62,Tryz.ntmps62;go_wp2_with fail;go_ret2;exact ⟨_,rfl,Ow.nil _ _ _,Kp.refl _⟩
    ·have d4:decide (n<0)=false:=by simp[h4]
     obtain ⟨n,rfl⟩:=Int.eq_ofNat_of_zero_le (show 0≤n by omega);obtain ⟨k,rfl⟩:=Int.eq_ofNat_of_zero_le (show 0≤k by omega);have hge:pw k≤n:=by
      rcases Nat.lt_or_ge n (pw k) with h | h
      ·exact absurd ⟨by omega,by omega,by omega,(ah5 n k).2 h⟩ h1
      ·exact h
     have d5:decide (pw k≤n)=true:=by simp[hge]
     clear h1;go_enter Tryz.func62,Tryz.ntmps62;go_wp2_with (go_at_call 110;refine (agD _ _ (by omega)).mono ?_;rintro e w' ⟨rfl,rfl⟩;rw[Int.toNat_natCast])
     go_ret2;exact ⟨_,rfl,Ow.nil _ _ _,Kp.refl _⟩
theorem mark0 (n:Int)(w:World)(h:n<64):
  Calls Tryz.prog 195 #[.int .i64 n] w fun e w'=>e=.returned (.int .i64 0)∧w=w':=by
 go_enter Tryz.func195,Tryz.ntmps195;go_wp2;go_ret;exact ⟨rfl,rfl⟩
theorem mark1 (n:Int)(w:World)(h0:64≤n)(h:n<16384):
  Calls Tryz.prog 195 #[.int .i64 n] w fun e w'=>e=.returned (.int .i64 1)∧w=w':=by
 go_enter Tryz.func195,Tryz.ntmps195;go_wp2;go_ret;exact ⟨rfl,rfl⟩
theorem mark2 (n:Int)(w:World)(h0:16384≤n):
  Calls Tryz.prog 195 #[.int .i64 n] w fun e w'=>e=.returned (.int .i64 2)∧w=w':=by
 go_enter Tryz.func195,Tryz.ntmps195;go_wp2;go_ret;exact ⟨rfl,rfl⟩
theorem afr (x m:Int)(h0:0≤x)(h1:x<64)(hm:m=0∨m=64∨m=128):bits .or .u8 x m=x+m:=by
 have hc:bits .or .u8 x m=bits .or .u8 m x:=by simp only[bits,BitVec.or_comm]
 rw[hc,bits_join .u8 8 (by decide) wraps_u8 6 m x (by omega) (by omega) (by omega) h0 (by omega) (by omega)];omega
theorem api (k n m:Nat)(h:n / 256 ^ k+m<256):be (k+1) (n+m*256 ^ k)=UInt8.ofNat (n / 256 ^ k+m) :: be k n:=by
 rw[aew,Nat.add_mul_div_right _ _ (Nat.pow_pos (by decide))];congr 1
 have h2:∀ k n m,be k (n+m*256 ^ k)=be k n:=by
  intro k;induction k with
  | zero=>intro n m;rfl
  | succ k ih=>
   intro n m;rw[be,be,show n+m*256 ^ (k+1)=n+256*(m*256 ^ k) from by rw[Nat.pow_succ,← Nat.mul_assoc,Nat.mul_comm 256],
    Nat.add_mul_div_left _ _ (by decide),ih]
   congr 2
   apply UInt8.toNat_inj.1;simp
 exact h2 k n m
theorem Ow.set0 {w:World}{B:Nat}{v:Value}{k' n':Nat}(h:Ow 5 w B v (be k' n'))(k n m:Nat)(hm:n / 256 ^ k+m<256)(hk:k'=k+1:=by rfl)(hn:n'=n:=by first | rfl | simp):
  ∃ g c,v=.slice (some ⟨g,0,none⟩) (k+1) c∧B≤g∧w.cell? ⟨g,0,none⟩=some (.int .u8 ((n / 256 ^ k:Nat):Int))∧w.frozen? ⟨g,0,none⟩=false ∧
   Ow 5 (w.setCell ⟨g,0,none⟩ (.int .u8 ((n / 256 ^ k+m:Nat):Int))) B v (be (k+1) (n+m*256 ^ k)):=by
 subst hk hn;rcases h.shape with ⟨_,h0⟩ | ⟨g,c,rfl,hg,_,hc,hcm⟩
 ·have:=congrArg List.length h0
  rw[aak] at this;simp at this
 ·have hl:(be (k+1) n').length=k+1:=aak _ _
  refine ⟨g,c,by rw[hl],hg,?_,h.frozenAt 0,?_⟩
  ·rw[h.cellAt 0 (by rw[hl];omega),aew]
   have:n' / 256 ^ k % 256=n' / 256 ^ k:=Nat.mod_eq_of_lt (by omega);simp[Lib.byteCells,this]
  ·have h2:=(h.stored 0 (.int .u8 ((n' / 256 ^ k+m:Nat):Int))).1
   unfold Ow;rw[aak,api k n' m hm];rw[aak,aew] at h2;generalize n' / 256 ^ k=q at *;have:(q+m) % 256=q+m:=Nat.mod_eq_of_lt hm;have e:Lib.byteCells (UInt8.ofNat (q+m) :: be k n')=(Lib.byteCells (UInt8.ofNat q :: be k n')).set 0 (.int .u8 ((q+m:Nat):Int)):=by
    simp only[Lib.byteCells,List.map_cons,List.set_cons_zero,UInt8.toNat_ofNat',Nat.reducePow,this]
   rw[e,List.length_cons,aak];exact h2
theorem acj (n k:Int)(w:World)(h0:0≤n)(h1:1≤k)(h7:k≤7):
  Calls Tryz.prog 135 #[.int .i64 n,.int .i64 k] w fun e w'=>∃ v,e=.returned v∧Ow 5 w' w.heap.size v (be k.toNat n.toNat)∧Kp w w':=by
 obtain ⟨k,rfl⟩:=Int.eq_ofNat_of_zero_le (show 0≤k by omega);exact adK n k w h0 (by omega) (by omega)
theorem akD (n:Int)(w:World):
  Calls Tryz.prog 167 #[.int .i64 n] w fun e w'=>∃ v,e=.returned (.tuple #[v,.int .i64 (lenE n)])∧Ow 5 w' w.heap.size v (lenB n)∧Kp w w':=by
 by_cases h1:n<0
 ·have d1:decide (n<0)=true:=by simp[h1]
  have e1:lenE n=1:=if_pos (.inl h1);have e2:lenB n=[]:=by simp[lenB,e1]
  rw[e1,e2];clear e1 e2;go_enter Tryz.func167,Tryz.ntmps167;go_wp2_with fail;go_ret2;exact ⟨_,rfl,Ow.nil _ _ _,Kp.refl _⟩
 ·have d1:decide (n<0)=false:=by simp[h1]
  by_cases h2:1073741823<n
  ·have d2:decide (1073741823<n)=true:=by simp[h2]
   have e1:lenE n=1:=if_pos (.inr h2);have e2:lenB n=[]:=by simp[lenB,e1]
   rw[e1,e2];clear e1 e2;go_enter Tryz.func167,Tryz.ntmps167;go_wp2_with fail;go_ret2;exact ⟨_,rfl,Ow.nil _ _ _,Kp.refl _⟩
  ·have d2:decide (1073741823<n)=false:=by simp[h2]
   obtain ⟨n,rfl⟩:=Int.eq_ofNat_of_zero_le (show 0≤n by omega);have e1:lenE n=0:=if_neg (by omega);have e2:lenB n=aau n:=by simp[lenB,e1]
   rw[e1,e2];clear e1 e2;by_cases h3:n<64
   ·have HE:Hid (aau n=be 1 (n+0*256 ^ 0)):=by show aau n=be 1 (n+0*256 ^ 0);simp[aau,h3]
    have hor:bits .or .u8 (n:Int) 0=n:=by rw[afr _ _ (by omega) (by omega) (by omega)];omega
    go_enter Tryz.func167,Tryz.ntmps167;go_wp2_with (first | (go_at_call 195;refine (mark0 _ _ (by omega)).mono ?_;rintro e w' ⟨rfl,rfl⟩) | (go_at_call 135;refine (acj _ 1 _ (by omega) (by omega) (by omega)).mono ?_;rintro e w1 ⟨v,rfl,ho,hk⟩;obtain ⟨g,c,rfl,hg,hcell,hfr,ho2⟩:=ho.set0 0 n 0 (by simp;omega);simp at hcell))
    go_ret2;refine ⟨_,rfl,?_,Below.setCell hk hg _⟩;rw[HE.out];simpa using ho2
   ·by_cases h4:n<16384
    ·have HE:Hid (aau n=be 2 (n+64*256 ^ 1)):=by show aau n=be 2 (n+64*256 ^ 1);simp[aau,h3,h4]
     have hor:bits .or .u8 ((n:Int) / 256) 64=(n:Int) / 256+64:=afr _ _ (by omega) (by omega) (by omega);go_enter Tryz.func167,Tryz.ntmps167;go_wp2_with (first | (go_at_call 195;refine (mark1 _ _ (by omega) (by omega)).mono ?_;rintro e w' ⟨rfl,rfl⟩) | (go_at_call 135;refine (acj _ 2 _ (by omega) (by omega) (by omega)).mono ?_;rintro e w1 ⟨v,rfl,ho,hk⟩;obtain ⟨g,c,rfl,hg,hcell,hfr,ho2⟩:=ho.set0 1 n 64 (by omega);simp at hcell))
     go_ret2;refine ⟨_,rfl,?_,Below.setCell hk hg _⟩;rw[HE.out];simpa using ho2
    ·have HE:Hid (aau n=be 4 (n+128*256 ^ 3)):=by show aau n=be 4 (n+128*256 ^ 3);simp[aau,h3,h4]
     have hor:bits .or .u8 ((n:Int) / 16777216) 128=(n:Int) / 16777216+128:=afr _ _ (by omega) (by omega) (by omega);go_enter Tryz.func167,Tryz.ntmps167;go_wp2_with (first | (go_at_call 195;refine (mark2 _ _ (by omega)).mono ?_;rintro e w' ⟨rfl,rfl⟩) | (go_at_call 135;refine (acj _ 4 _ (by omega) (by omega) (by omega)).mono ?_;rintro e w1 ⟨v,rfl,ho,hk⟩;obtain ⟨g,c,rfl,hg,hcell,hfr,ho2⟩:=ho.set0 3 n 128 (by omega);simp at hcell))
     go_ret2;refine ⟨_,rfl,?_,Below.setCell hk hg _⟩;rw[HE.out];simpa using ho2
theorem aot (i n:Nat)(x y z:UInt8)(p o b off c:Nat)(T1 T2:TypeId)(w:World)(hi:i<n)(hn:n≤c)(hc:c≤maxLen)(hp:One T1 w p (.int .u8 (z.toNat:Int)))(ho:One T2 w o (.slice (some ⟨b,off,none⟩) n c))
  (hcell:w.cell? ⟨b,off+i,none⟩=some (.int .u8 (y.toNat:Int))) (z':UInt8) (hz:z ||| (x ^^^ y)=z'):
  Calls Tryz.prog 261 #[.int .i64 i,.int .u8 (x.toNat:Int),.pointer (some ⟨p,0,none⟩),.pointer (some ⟨o,0,none⟩)] w fun e w'=>e=.returned (.tuple #[])∧∃ n,w'=(w.setCell ⟨p,0,none⟩ (.int .u8 (z'.toNat:Int))).drewN n:=by
 have cp:=hp.cell;have fp:=hp.frozen;have co:=ho.cell;have hb:=aky x y;have hb2:=ary z (x ^^^ y);rw[hz] at hb2;unfold maxLen at hc;have hi1:(i:Int)<(n:Int):=by omega
 have hi0:(0:Int)≤(i:Int):=by omega
 generalize z'.toNat=Z at *;generalize (x ^^^ y).toNat=XY at *;clear hz;go_enter Tryz.func261,Tryz.ntmps261;go_wp2_with fail;go_region
 all_goals
  go_end0
  exact ⟨rfl,1,rfl⟩
theorem apO (l m:List UInt8)(k:Nat):orT l m k ||| (l.getD k 0 ^^^ m.getD k 0)=orT l m (k+1):=rfl
theorem One.drewN {T:TypeId}{w:World}{p:Nat}{v:Value}(h:One T w p v)(n:Nat):One T (w.drewN n) p v:=h.kp ((Kp.refl w).drewN n)
theorem ai3 (v ar1:Value)(l m:List UInt8)(p o:Nat)(T1 T2:TypeId)(w w3:World)(h:Rd w v l)(hu:Rd w ar1 m)(hlm:l.length=m.length)(hk:Kp w w3)(hpw:w.heap.size≤p)
  (hp:One T1 w3 p (.int .u8 0)) (ho:One T2 w3 o ar1) (hop:o≠p):
  Calls Tryz.prog 260 #[v,.func (.func 261) #[] #[.pointer (some ⟨p,0,none⟩),.pointer (some ⟨o,0,none⟩)]] w3 fun e w'=>e=.returned (.tuple #[])∧One T1 w' p (.int .u8 ((orT l m l.length).toNat:Int))∧Kp w w':=by
 obtain ⟨a,cc,rfl,h1,h2⟩:=h.shape;obtain ⟨a',c',rfl,h1',h2'⟩:=hu.shape;unfold maxLen at h2;have HLM:=Lib.hid hlm;have h0:One T1 w3 p (.int .u8 ((orT l m 0).toNat:Int)):=hp;have hlm':l.length≤m.length:=by omega
 clear hlm hp;go_enter Tryz.func260,Tryz.ntmps260;go_wp2_with fail;go_loopw[8] (fun i wr=>∃ k:Nat,k≤l.length∧i=.int .i64 k∧One T1 wr p (.int .u8 ((orT l m k).toNat:Int))∧Same (fun k=>k=p) w3 wr∧Kp w wr) (fun i _=>(l.length - (intOf i).toNat))
 case atStart=>exact ⟨0,by omega,rfl,h0,Same.refl _ _,hk⟩
 case round=>
  clear h0;obtain ⟨k,hkl,rfl,hB,hS,hkp⟩:=hrel;by_cases hlt:k<l.length
  ·obtain ⟨b,off,rfl,_,hcell⟩:=h.at k hlt
   obtain ⟨b',off',rfl,_,hcell'⟩:=hu.at k (by omega);have hc0:=hkp.cell (hcell k hlt);have hc0':=hkp.cell (hcell' k (by omega));have hor:=ho.same hS hop;have HX:=Lib.hid (aot k m.length (l.getD k 0) (m.getD k 0) (orT l m k) p o b' off' c' T1 T2 wr (by omega) h1' h2' hB hor hc0' _ (apO l m k));clear hcell hcell' hc0';generalize hx:l.getD k 0=x at *;clear hx;go_wp2_with (go_at_call 261;refine HX.out.mono ?_;rintro e w4 ⟨rfl,n4,rfl⟩)
   go_roundw
   case rel=>exact ⟨k+1,by omega,by go_num,(hB.set _).drewN _,(hS.setCell _ _ rfl).drewN _,Kp.drewN (Below.setCell hkp hpw _) _⟩
   case measure=>simp[intOf];omega
  ·obtain rfl:k=l.length:=by omega
   go_wp2_with fail;go_end0
   exact ⟨rfl,hB,hkp⟩
theorem apP (ar1 v:Value)(l m:List UInt8)(w:World)(h:Rd w ar1 l)(h':Rd w v m):
  Calls Tryz.prog 233 #[ar1,v] w fun e w'=>e=.returned (.bool (decide (l=m)))∧Kp w w':=by
 obtain ⟨a,c,rfl,h1,h2⟩:=h.shape;obtain ⟨a',c',rfl,h1',h2'⟩:=h'.shape;unfold maxLen at h2 h2';have ho0:One 24 (w.alloc (.cells #[.slice a' m.length c'] 24)) w.heap.size (.slice a' m.length c'):=One.new _ _ _;have HO:=Lib.hid ho0;have co:=ho0.cell;clear ho0;by_cases hlm:l.length=m.length
 ·have d0:((l.length:Int) != (m.length:Int))=false:=by simp[hlm]
  have d1:(l.length != m.length)=false:=by simp[hlm]
  have HA:=Lib.hid (aqC l m hlm);have HL:=Lib.hid hlm;clear hlm;go_enter Tryz.func233,Tryz.ntmps233;go_wp2_with fail;have hp1:One 5 ((w.alloc (.cells #[.slice a' m.length c'] 24)).alloc (.cells #[.int .u8 0] 5)) (w.heap.size+1) (.int .u8 0):=by
   have:=One.new 5 (w.alloc (.cells #[.slice a' m.length c'] 24)) (.int .u8 0);rwa [World.size_alloc] at this
  refine (ai3 _ _ l m (w.heap.size+1) w.heap.size _ _ w _ h h' HL.out (((Kp.refl _).alloc _).alloc _) (by omega) hp1 (HO.out.kp ((Kp.refl _).alloc _)) (by omega)).mono ?_;rintro e w4 ⟨rfl,hp4,hk4⟩;have c4:=hp4.cell;have hz:((((orT l m l.length).toNat:Nat):Int)==0)=decide (l=m):=by
   rw[← HA.out,Bool.eq_iff_iff];simp[← UInt8.toNat_inj]
  generalize (orT l m l.length).toNat=Z at *;have HZ:=Lib.hid hz;clear hz;go_wp2_with fail;go_ret;exact ⟨by rw[← HZ.out];rfl,hk4⟩
 ·have d0:((l.length:Int) != (m.length:Int))=true:=by simp;omega
  have d1:(l.length != m.length)=true:=by simp[hlm]
  have hne:decide (l=m)=false:=decide_eq_false (fun e=>hlm (by rw[e]));rw[hne];clear hne hlm;go_enter Tryz.func233,Tryz.ntmps233;go_wp2_with fail;go_ret;exact ⟨rfl,(Kp.refl _).alloc _⟩
end Go.Proofs.YthmhklmkgkfcpaaGreatDoor
