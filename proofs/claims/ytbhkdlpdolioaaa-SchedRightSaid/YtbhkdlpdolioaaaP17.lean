import Derived.Test.YtbhkdlpdolioaaaP14
set_option linter.unusedVariables false
set_option linter.unusedSimpArgs false
set_option maxHeartbeats 8000000
set_option maxRecDepth 100000
namespace Go.Proofs.Ytbhkdlpdolioaaa
open Go.RowKit
attribute [local go_sem] acb aeX aep aeY u_or aeq ac3 afY afV afz
theorem afc (s:S8)(v:Value)(all:List UInt8)(at':Nat)(gk ck:Nat)(k:List UInt32)(w:World)(h:Rd w v all)(hl:at'+64≤all.length)(hk:Arr 59 w gk k)(hkl:k.length=64):
  Calls Try.prog 59 #[.agg (aab s.list),v,.int .i64 at',.slice (some ⟨gk,0,none⟩) 64 ck] w fun e w'=>e=.returned (.agg (aab (comp k s ((all.drop at').take 64)).list))∧Kp w w':=by
 obtain ⟨l,hL⟩:∃ l,(all.drop at').take 64=l:=⟨_,rfl⟩;rw[hL];have HKL:=Lib.hid hkl;have HLL:=Lib.hid hL;clear hL hkl;go_enter Try.func59,Try.ntmps59;go_wp2_with ((at_make;(refine aak (z:=.int .u32 0) (b:=4) Try.underlying89 (by kernel_rfl) rfl (by decide) rfl _ _ rfl 64 rfl rfl (by decide) ?_);intro w1 hw1;have HW1:=Lib.hid hw1;clear hw1))
 have hR:Arr 91 ((w.alloc (.cells (aab s.list) 91)).alloc (.cells (aab (aai 8)) 91)) (w.heap.size+1) (aai 8):=by
  have:=Arr.new 91 (w.alloc (.cells (aab s.list) 91)) (aab (aai 8)) (aai 8) rfl;rw[World.size_alloc] at this;exact this
 have hB0:Arr 91 w1 w.heap.size s.list:=by rw[HW1.out];exact ((Arr.new _ w _ s.list rfl).alloc _).alloc _
 have hR0:Arr 91 w1 (w.heap.size+1) (aai 8):=by rw[HW1.out];exact hR.alloc _
 have hW0:Arr 59 w1 (w.heap.size+1+1) (upto l 0):=by
  rw[HW1.out];have:=Arr.new 59 ((w.alloc (.cells (aab s.list) 91)).alloc (.cells (aab (aai 8)) 91)) (aab (aai 64)) (upto l 0) rfl;rw[World.size_alloc,World.size_alloc,ac9] at this;exact this
 have hK0:Kp w w1:=by rw[HW1.out];exact (((Kp.refl w).alloc _).alloc _).alloc _
 clear hR;go_loopw[10] (fun i wr=>∃ t:Nat,t≤16∧i=.int .i64 t∧Arr 91 wr w.heap.size s.list∧Arr 91 wr (w.heap.size+1) (aai 8)∧Arr 59 wr (w.heap.size+1+1) (upto l t)∧Kp w wr) (fun i _=>16 - (intOf i).toNat)
 case atStart=>exact ⟨0,by omega,rfl,hB0,hR0,hW0,hK0⟩
 case round=>
  clear hB0 hR0 hW0 hK0 HW1;obtain ⟨t,ht,rfl,hB,hR,hW,hkp⟩:=hrel;by_cases hlt:t<16
  ·have hg:∀ j,j<64→l.getD j 0=all.getD (at'+j) 0:=fun j hj=>by
    rw[← HLL.out,List.getD_eq_getElem?_getD,List.getElem?_take_of_lt hj,List.getElem?_drop,List.getD_eq_getElem?_getD]
   have hn:aaJ l (sched l t) t=abl (all.getD (at'+4*t) 0) (all.getD (at'+4*t+1) 0) (all.getD (at'+4*t+2) 0) (all.getD (at'+4*t+3) 0):=by
    unfold aaJ;rw[if_pos hlt,hg _ (by omega),hg _ (by omega),hg _ (by omega),hg _ (by omega)];simp only[Nat.add_assoc]
   have hset:=(ab8 l t (by omega));rw[hn] at hset;have HS:=Lib.hid hset;have hlen:=aaX l t (by omega);have hlenm:all.length≤maxLen:=by
    obtain ⟨a,c,_,h1,h2⟩:=h.shape;omega
   unfold maxLen at hlenm;clear hg hn hset;go_wp2_with fail;refine (ae6 _ v all (at'+4*t) _ (h.kp hkp) (by omega) (by simp)).mono ?_;rintro e w' ⟨rfl,n,rfl⟩;have ca:=(hW.drewN n).cell t (by omega);have cf:=(hW.drewN n).frozen t (by omega);have q:(t:Int)<64:=by omega
   clear hlen;go_wp2_with fail;go_roundw
   case rel=>exact ⟨t+1,by omega,by go_num,(hB.drewN n).other _ _ (by simp;omega),(hR.drewN n).other _ _ (by simp),(hW.drewN n).setTo t _ HS.out,Below.setCell (hkp.drewN n) (by simp;omega) _⟩
   case measure=>simp[intOf];omega
  ·obtain rfl:t=16:=by omega
   clear ht hlt;go_wp2_with fail;go_loopw[11] (fun i wr=>∃ t:Nat,16≤t∧t≤64∧i=.int .i64 t∧Arr 91 wr w.heap.size s.list∧Arr 91 wr (w.heap.size+1) (aai 8)∧Arr 59 wr (w.heap.size+1+1) (upto l t)∧Kp w wr) (fun i _=>64 - (intOf i).toNat)
   case atStart=>exact ⟨16,by omega,by omega,rfl,hB,hR,hW,hkp⟩
   case round=>
    clear hB hR hW hkp;obtain ⟨t,h16,ht,rfl,hB,hR,hW,hkp⟩:=hrel;by_cases hlt:t<64
    ·have hlen:=aaX l t (by omega)
     have hn:aaJ l (sched l t) t=wadd (wadd (wadd (acO 17 19 10 ((upto l t).getD (t - 2) 0)) ((upto l t).getD (t - 7) 0)) (acO 7 18 3 ((upto l t).getD (t - 15) 0))) ((upto l t).getD (t - 16) 0):=by
      unfold aaJ;rw[if_neg (by omega),aa1 l t _ (by omega),aa1 l t _ (by omega),aa1 l t _ (by omega),aa1 l t _ (by omega)]
     have hset:=(ab8 l t (by omega));rw[hn] at hset;have c2:=hW.cell (t - 2) (by omega);have c7:=hW.cell (t - 7) (by omega);have c15:=hW.cell (t - 15) (by omega);have c16:=hW.cell (t - 16) (by omega);have ca:=hW.cell t (by omega);have cf:=hW.frozen t (by omega);generalize (upto l t).getD (t - 2) 0=x2 at *;generalize (upto l t).getD (t - 7) 0=x7 at *;generalize (upto l t).getD (t - 15) 0=x15 at *;generalize (upto l t).getD (t - 16) 0=x16 at *;have i2:IntKind.i64.wrap ((t:Int) - 2)=(t:Int) - 2:=IntWalk.i64_in _ (by omega);have i7:IntKind.i64.wrap ((t:Int) - 7)=(t:Int) - 7:=IntWalk.i64_in _ (by omega);have i15:IntKind.i64.wrap ((t:Int) - 15)=(t:Int) - 15:=IntWalk.i64_in _ (by omega);have i16:IntKind.i64.wrap ((t:Int) - 16)=(t:Int) - 16:=IntWalk.i64_in _ (by omega);have n2:((t:Int) - 2).toNat=t - 2:=by omega
     have n7:((t:Int) - 7).toNat=t - 7:=by omega
     have n15:((t:Int) - 15).toNat=t - 15:=by omega
     have n16:((t:Int) - 16).toNat=t - 16:=by omega
     have p2:(2:Int)≤(t:Int):=by omega
     have p7:(7:Int)≤(t:Int):=by omega
     have p15:(15:Int)≤(t:Int):=by omega
     have p16:(16:Int)≤(t:Int):=by omega
     have q2:(t:Int) - 2<64:=by omega
     have q7:(t:Int) - 7<64:=by omega
     have q15:(t:Int) - 15<64:=by omega
     have q16:(t:Int) - 16<64:=by omega
     have q:(t:Int)<64:=by omega
     have HS:=Lib.hid hset;clear hset hn hlen;go_wp2_with ((go_at_call 80;refine (acP _ _ _ (by decide) (by decide)).mono ?_;rintro e w' ⟨rfl,rfl⟩))
     go_still_tail 18,(by kernel_rfl)
     go_wp2_with fail;go_roundw
     case rel=>
      repeat apply Exists.intro
      refine ⟨?_,rfl⟩;exact ⟨t+1,by omega,by omega,by go_num,(hB.other _ _ (by simp;omega)).drew,(hR.other _ _ (by simp)).drew,(hW.setTo t _ HS.out).drew,(Below.setCell hkp (by simp;omega) _).drew⟩
     case measure=>simp[intOf];omega
    ·obtain rfl:t=64:=by omega
     rw[adT] at hW;have c0:wr.cell? ⟨w.heap.size,0,none⟩=some (.int .u32 (af9 s.a)):=hB.cell 0 (Nat.lt_of_sub_eq_succ rfl);have c1:wr.cell? ⟨w.heap.size,1,none⟩=some (.int .u32 (af9 s.b)):=hB.cell 1 (Nat.lt_of_sub_eq_succ rfl);have c2:wr.cell? ⟨w.heap.size,2,none⟩=some (.int .u32 (af9 s.c)):=hB.cell 2 (Nat.lt_of_sub_eq_succ rfl);have c3:wr.cell? ⟨w.heap.size,3,none⟩=some (.int .u32 (af9 s.d)):=hB.cell 3 (Nat.lt_of_sub_eq_succ rfl);have c4:wr.cell? ⟨w.heap.size,4,none⟩=some (.int .u32 (af9 s.e)):=hB.cell 4 (Nat.lt_of_sub_eq_succ rfl);have c5:wr.cell? ⟨w.heap.size,5,none⟩=some (.int .u32 (af9 s.f)):=hB.cell 5 (Nat.lt_of_sub_eq_succ rfl);have c6:wr.cell? ⟨w.heap.size,6,none⟩=some (.int .u32 (af9 s.g)):=hB.cell 6 (Nat.lt_of_sub_eq_succ rfl);have c7:wr.cell? ⟨w.heap.size,7,none⟩=some (.int .u32 (af9 s.h)):=hB.cell 7 (Nat.lt_of_sub_eq_succ rfl);have hk3:=hk.kp hkp;clear h hl hk;go_wp2_with fail;have C:=Lib.hid (And.intro c0 (And.intro c1 (And.intro c2 (And.intro c3 (And.intro c4 (And.intro c5 (And.intro c6 c7)))))));clear c0 c1 c2 c3 c4 c5 c6 c7;have HKL2:=HKL.out;have HWL:=aal l 64;go_loopw[16,17,18,19,20,21,22,23,24] (fun sa sb sc sd se sf sg sh i wq=>∃ t:Nat,t≤64∧i=.int .i64 t∧(∃ r,r=rnds k (sched l 64) s t∧sa=.int .u32 (af9 r.a)∧sb=.int .u32 (af9 r.b)∧sc=.int .u32 (af9 r.c)∧sd=.int .u32 (af9 r.d)∧se=.int .u32 (af9 r.e)∧sf=.int .u32 (af9 r.f)∧sg=.int .u32 (af9 r.g)∧sh=.int .u32 (af9 r.h))∧∃ n,wq=wr.drewN n) (fun _ _ _ _ _ _ _ _ i _=>64 - (intOf i).toNat)
     case atStart=>exact ⟨0,by omega,rfl,⟨s,rfl,rfl,rfl,rfl,rfl,rfl,rfl,rfl,rfl⟩,0,rfl⟩
     case round=>
      obtain ⟨t,ht,rfl,⟨r,hr,rfl,rfl,rfl,rfl,rfl,rfl,rfl,rfl⟩,n,rfl⟩:=hrel;by_cases hlt:t<64
      ·have ck:=(hk3.drewN n).cell t (by omega)
       have cw:=(hW.drewN n).cell t (by omega);have HR:=Lib.hid hr;have q:(t:Int)<64:=by omega
       obtain ⟨wn,hwn⟩:∃ wn,wr.drewN n=wn:=⟨_,rfl⟩;rw[hwn] at ck cw ⊢;have HWN:=Lib.hid hwn;clear hr HKL2 HWL hwn;have hsg:IntKind.u32.signed=false:=rfl;go_wp2_with fail;go_quiet ((go_at_call 80;exact abP (acP _ _ _ (by decide) (by decide))))
       go_wp2_with ((go_at_call 80;refine (acP _ _ _ (by decide) (by decide)).mono ?_;rintro e w' ⟨rfl,rfl⟩))
       go_roundw
       case rel=>
        repeat apply Exists.intro
        refine ⟨?_,rfl⟩;exact ⟨t+1,by omega,by go_num,⟨rnd r (k.getD t 0) ((sched l 64).getD t 0),by rw[HR.out];rfl,rfl,rfl,rfl,rfl,rfl,rfl,rfl,rfl⟩,n+nq,by rw[← HWN.out,World.drewN_drewN]⟩
       case measure=>simp[intOf];omega
      ·obtain rfl:t=64:=by omega
       have HR:=Lib.hid hr;clear hr HKL2 HWL;obtain ⟨c0,c1,c2,c3,c4,c5,c6,c7⟩:=C.out;go_wp2_with ((refine aad (by kernel_rfl) rfl rfl (.tmp 8) (.tmp 206) rfl (w.heap.size+1) (aai 8) (s.add r).list rfl rfl (hR.drewN n) rfl rfl ?_;intro w5 hR5 hbut))
       refine bodyPost_ret (aaH Try.underlying91 (by kernel_rfl) rfl _ _ (w.heap.size+1) (s.add r).list rfl hR5 rfl) rfl ?_;exact ⟨by rw[HR.out];rfl,hbut.below (hkp.drewN n) (by omega)⟩
end Go.Proofs.Ytbhkdlpdolioaaa
