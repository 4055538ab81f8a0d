import Derived.Test.YthmhklmkgkfcpaaGreatDoorT3
import Derived.Test.YthmhklmkgkfcpaaGreatDoorT7
import Derived.Test.YthmhklmkgkfcpaaGreatDoorT8
import Derived.Laws.Rows
import Derived.Deep.RegionHeld3
set_option linter.unusedVariables false
set_option linter.unusedSimpArgs false
set_option maxHeartbeats 8000000
set_option maxRecDepth 100000
namespace Go.Proofs.YthmhklmkgkfcpaaGreatDoor
open Go.RowKit Go.Shelf
attribute [local go_sem] Oper.semAt_some
def Br (T:TypeId)(w:World)(g:Nat)(l:List Bool):Prop:=w.heap[g]?=some (.cells (l.map Value.bool).toArray T (0,0))
theorem Br.lt {T:TypeId}{w:World}{g:Nat}{l:List Bool}(h:Br T w g l):g<w.heap.size:=(Array.getElem?_eq_some_iff.1 h).1
theorem Br.cell {T:TypeId}{w:World}{g:Nat}{l:List Bool}(h:Br T w g l)(i:Nat)(hi:i<l.length):w.cell? ⟨g,i,none⟩=some (.bool (l.getD i false)):=by
 rw[cell_of_row w g i _ T _ h];simp[hi]
theorem Br.frozen {T:TypeId}{w:World}{g:Nat}{l:List Bool}(h:Br T w g l)(i:Nat):w.frozen? ⟨g,i,none⟩=false:=by
 have h':=h;unfold Br at h';simp[World.frozen?,h']
theorem Br.set {T:TypeId}{w:World}{g:Nat}{l:List Bool}(h:Br T w g l)(i:Nat)(x:Bool):Br T (w.setCell ⟨g,i,none⟩ (.bool x)) g (l.set i x):=by
 have h':=h;unfold Br at h' ⊢;obtain ⟨hlt,heq⟩:=Array.getElem?_eq_some_iff.1 h';simp[World.setCell,hlt,Array.getElem_modify,heq,List.map_set]
theorem Br.new (T:TypeId)(w:World)(cs:Array Value)(l:List Bool)(h:cs=(l.map Value.bool).toArray):Br T (w.alloc (.cells cs T)) w.heap.size l:=by
 subst h;exact heap_alloc_new w _
theorem anF (m:Nat)(hm:1≤m)(X:Nat→Prop)(w:World)(hX:∀ k,X k→k<w.heap.size):
  air Fence.wide m Tryz.prog 264 #[] (fun i=>#[.int .u64 (ac0 i)]) 64 X w:=by
 intro l J W hb hl1 hl2 hJ hY h0;have HJ:=Lib.hid hJ;have HY:=Lib.hid hY;have HX:=Lib.hid hX;clear hJ hY hX;refine callsIn_of_wp Tryz.func264 rfl trivial ?_ rfl;simp only[Tryz.ntmps264,List.append_toArray,List.append_nil,List.size_toArray,List.length_cons,List.length_nil,Nat.reduceAdd,Nat.reduceSub,Array.replicate_succ,Array.replicate_zero,List.push_toArray,List.nil_append,List.cons_append];gi_wp2
 have hD0:Br 292 (W.alloc (.cells (List.replicate 312 (Value.bool false)).toArray 292)) W.heap.size (abL 2).D:=Br.new _ _ _ _ rfl;gi_loopw [3] (fun p wr=>∃ q:Nat,2≤q∧q≤312∧p=.int .u64 q∧Br 292 wr W.heap.size (abL q).D∧J (abL q).ps.length wr) (fun p _=>312 - (intOf p).toNat)
 case atStart=>exact ⟨2,by omega,by omega,rfl,hD0,HJ.out _ _ _ h0 ((Below.refl _ W).alloc (Nat.le_refl _) _)⟩
 case round=>
  clear hD0;obtain ⟨q,hq1,hq2,rfl,hD,hj⟩:=hrel;by_cases hlt:q<312
  ·have hlen:=acN q
   have hc:=hD.cell q (by omega);have hqi:(q:Int)<312:=by omega
   rcases hdv:(abL q).D.getD q false with _ | _
   ·have hnext:=(al5 ⟨q,hlt⟩).resolve_left (by rw[hdv];decide)
    have hn2:=hnext.resolve_left (by simp;omega);obtain ⟨hp,h64⟩:=hn2;simp only at hp h64;obtain ⟨fn,tmps,assign,body,hy,hR⟩:=HY.out (abL q).ps.length wr h64 hj;rw[hp] at hy;have HT:=Lib.hid (al7 q hdv hq1);have HP:=Lib.hid hp;rw[hdv] at hc;have HD:=Lib.hid hdv;have HL:=Lib.hid hlen;clear hdv hp hnext h64 hlen;gi_wp2
    refine hR.mono ?_;rintro e W3 ⟨rfl,hj3,hs3⟩;have hD3:Br 292 W3 W.heap.size (abL q).D:=
     (hs3.block _ hD.lt (fun h=>h.elim (fun e=>by omega) (fun hx=>by have:=HX.out _ hx;have:=hb.size;omega))).trans hD
    clear hR hs3 hD hj hc;have hqq0:0≤(q:Int)*(q:Int):=Int.mul_nonneg (by omega) (by omega);have hqq:(q:Int)*(q:Int)≤97344:=by
     have h2:=Int.mul_le_mul (show (q:Int)≤312 by omega) (show (q:Int)≤312 by omega) (by omega) (by omega);exact h2
    have hmul:IntKind.u64.wrap ((q:Int)*(q:Int))=((q*q:Nat):Int):=by rw[acc _ (by omega) (by omega)];simp
    obtain ⟨M,hM⟩:∃ M,mark 312 q (q*q) (abL q).D=M:=⟨_,rfl⟩;have hqn:((q*q:Nat):Int)≤97344:=by rw[Int.natCast_mul];exact hqq
    obtain ⟨k0,hk0⟩:∃ k,q*q=k:=⟨_,rfl⟩;have HT2:Hid (abL (q+1)=⟨M,(abL q).ps++[q]⟩):=Lib.hid (by rw[HT.out,hM]);rw[hk0] at hmul hM hqn;have HM:=Lib.hid hM;clear hk0 hM hqq hqq0 HT;gi_wp2
    gi_loopw [4] (fun x wq=>∃ k:Nat,(k:Int)≤100000∧x=.int .u64 k∧(∃ f D',Br 292 wq W.heap.size D'∧D'.length=312∧mark f q k D'=M∧312≤f+k)∧J ((abL q).ps.length+1) wq) (fun x _=>312 - (intOf x).toNat)
    case atStart=>exact ⟨k0,by omega,rfl,⟨312,(abL q).D,hD3,HL.out,HM.out,by omega⟩,hj3⟩
    case round=>
     clear hD3 hj3 HM hmul hqn;obtain ⟨k,hkb,rfl,⟨f,D',hB,hl,hm,hf⟩,hj⟩:=hrel;by_cases hlt2:k<312
     ·have hc:=hB.cell k (by omega)
      have hfz:=hB.frozen k;have hki:(k:Int)<312:=by omega
      have hadd:IntKind.u64.wrap ((k:Int)+(q:Int))=(k:Int)+(q:Int):=acc _ (by omega) (by omega);have HM:=Lib.hid hm;have HL2:=Lib.hid hl;clear hm hl;gi_wp2
      go_roundw
      case rel=>
       obtain ⟨g,hg1,hg2⟩:=aqw f q k D' hlt2 (by omega) hf;exact ⟨k+q,by omega,by simp,⟨g,D'.set k true,hB.set k true,by rw[List.length_set];exact HL2.out,hg2.trans HM.out,hg1⟩,HJ.out _ _ _ hj ((Below.refl _ _).setCell (by simp) _)⟩
      case measure=>simp[intOf];omega
     ·have HE:=Lib.hid ((ao5 f q k D' hlt2).symm.trans hm)
      have hge:¬(k:Int)<312:=by omega
      clear hm hl;gi_wp2
      go_roundw
      case rel=>
       refine ⟨q+1,by omega,by omega,by simp,?_,?_⟩
       ·rw[HT2.out,← HE.out];exact hB
       ·rw[HT2.out];simpa using hj
      case measure=>simp[intOf];omega
   ·have HS:=Lib.hid (al6 q hdv hq1)
    rw[hdv] at hc;clear hdv hlen;gi_wp2
    go_roundw
    case rel=>exact ⟨q+1,by omega,by omega,by simp,by rw[HS.out];exact hD,by rw[HS.out];exact hj⟩
    case measure=>simp[intOf];omega
  ·have h312:q=312:=by omega
   have hj':J 64 wr:=by rw[h312,anE] at hj;exact hj
   have hge:¬(q:Int)<312:=by omega
   clear h312 hj hq2;gi_wp2
   go_end0
   exact ⟨⟨_,rfl⟩,hj'⟩
end Go.Proofs.YthmhklmkgkfcpaaGreatDoor
namespace Go.Proofs.YthmhklmkgkfcpaaGreatDoor
open Go.RowKit
attribute [local go_sem] agu aoV ant aoW u_or anu ajp
theorem arx (x:UInt32):bits .xor .u32 IntKind.u32.max (ar1 x)=ar1 (wnot x):=by
 have:IntKind.u32.max=ar1 0xffffffff:=by decide
 rw[this,ant];rfl
attribute [local go_sem] arx
def mix (A B:List UInt32)(i:Nat):List UInt32:=B.take i++A.drop i
theorem afm (A B:List UInt32)(i:Nat)(h:A.length=B.length)(hi:i≤A.length):(mix A B i).length=A.length:=by simp[mix];omega
theorem anG (A B:List UInt32)(i:Nat)(h:A.length=B.length)(hi:i<A.length)(x:UInt32)(hx:B.getD i 0=x):(mix A B i).set i x=mix A B (i+1):=by
 unfold mix;have hb:i<B.length:=by omega
 have hl:(B.take i).length=i:=by simp;omega
 rw[List.getD_eq_getElem?_getD,List.getElem?_eq_getElem hb] at hx;rw[List.set_append_right _ _ (by omega),hl,Nat.sub_self,List.drop_eq_getElem_cons hi,List.set_cons_zero,List.take_succ_eq_append_getElem hb,List.append_assoc];simp only[Option.getD_some] at hx;rw[hx];rfl
theorem aqA (A B:List UInt32)(i:Nat)(h:A.length=B.length)(hi:i<A.length):(mix A B i).getD i 0=A.getD i 0:=by
 unfold mix;have hl:(B.take i).length=i:=by simp;omega
 rw[List.getD_eq_getElem?_getD,List.getElem?_append_right (by omega),hl,Nat.sub_self,List.drop_eq_getElem_cons hi,List.getD_eq_getElem?_getD,List.getElem?_eq_getElem hi];rfl
theorem aqB (s r:S8)(i:Nat)(h:i<8):(s.add r).list.getD i 0=wadd (s.list.getD i 0) (r.list.getD i 0):=by
 match i,h with
 | 0,_=>rfl
 | 1,_=>rfl
 | 2,_=>rfl
 | 3,_=>rfl
 | 4,_=>rfl
 | 5,_=>rfl
 | 6,_=>rfl
 | 7,_=>rfl
theorem alw:∃ ie,Tryz.prog.info? 247=some ie∧ie.size=1:=by
 have h:(Tryz.prog.info? 247).map (·.size)=some 1:=by kernel_rfl
 cases hq:Tryz.prog.info? 247 with
 | none=>rw[hq] at h;cases h
 | some ie=>rw[hq] at h;exact ⟨ie,rfl,by simpa using h⟩
theorem ac6 (s:S8)(v:Value)(l:List UInt8)(gk:Nat)(k:List UInt32)(w:World)(h:Rd w v l)(hl:l.length=64)(hk:Arr 264 w gk k)(hkl:k.length=64):
  Calls Tryz.prog 248 #[.agg (aam s.list),v,.pointer (some ⟨gk,0,none⟩)] w fun e w'=>e=.returned (.agg (aam (comp k s l).list))∧Kp w w':=by
 obtain ⟨a,c,rfl,h1,h2⟩:=h.shape;rw[hl] at h h1 ⊢;have HL:=Lib.hid hl;have HKL:=Lib.hid hkl;clear hl hkl;go_enter Tryz.func248,Tryz.ntmps248;go_wp2_with fail;refine (ajw _ l _ (h.kp (((Kp.refl _).alloc _).alloc _)) HL.out).mono ?_;rintro e w1 ⟨rfl,hk1⟩;have hB:Arr 252 w1 w.heap.size s.list:=((Arr.new _ w (aam s.list) s.list rfl).alloc _).kp hk1;have hR:Arr 252 w1 (w.heap.size+1) (aaD 8):=by
  have:=Arr.new 252 (w.alloc (.cells (aam s.list) 252)) (aam (aaD 8)) (aaD 8) rfl;rw[World.size_alloc] at this;exact this.kp hk1
 have hkw:Kp w w1:=(((Kp.refl w).alloc _).alloc _).trans hk1;have hkk:=hk.kp hkw;go_wp2_with (first
  | (refine aar (by kernel_rfl) rfl rfl (.tmp 7) (.tmp 24) rfl w1.heap.size (aaD 64) (acA l 64) rfl rfl (Arr.new _ _ _ _ rfl) (aaR 64) (aaL l 64) ?_;intro w2 hW hbut))
 have hB2:=hbut.arr (hB.alloc _) (by have:=hB.lt;omega);have hR2:=hbut.arr (hR.alloc _) (by have:=hR.lt;omega);have hk2:=hbut.arr (hkk.alloc _) (by have:=hkk.lt;omega);have hkp2:Kp w w2:=hbut.below (hkw.alloc _) (hkw.size);clear hbut hB hR hkk hkw hk1 hk h;have c0:w2.cell? ⟨w.heap.size,0,none⟩=some (.int .u32 (ar1 s.a)):=hB2.cell 0 (Nat.lt_of_sub_eq_succ rfl);have c1:w2.cell? ⟨w.heap.size,1,none⟩=some (.int .u32 (ar1 s.b)):=hB2.cell 1 (Nat.lt_of_sub_eq_succ rfl);have c2:w2.cell? ⟨w.heap.size,2,none⟩=some (.int .u32 (ar1 s.c)):=hB2.cell 2 (Nat.lt_of_sub_eq_succ rfl);have c3:w2.cell? ⟨w.heap.size,3,none⟩=some (.int .u32 (ar1 s.d)):=hB2.cell 3 (Nat.lt_of_sub_eq_succ rfl);have c4:w2.cell? ⟨w.heap.size,4,none⟩=some (.int .u32 (ar1 s.e)):=hB2.cell 4 (Nat.lt_of_sub_eq_succ rfl);have c5:w2.cell? ⟨w.heap.size,5,none⟩=some (.int .u32 (ar1 s.f)):=hB2.cell 5 (Nat.lt_of_sub_eq_succ rfl);have c6:w2.cell? ⟨w.heap.size,6,none⟩=some (.int .u32 (ar1 s.g)):=hB2.cell 6 (Nat.lt_of_sub_eq_succ rfl);have c7:w2.cell? ⟨w.heap.size,7,none⟩=some (.int .u32 (ar1 s.h)):=hB2.cell 7 (Nat.lt_of_sub_eq_succ rfl);go_quiet (fail)
 clear c0 c1 c2 c3 c4 c5 c6 c7;go_wp2_with fail;obtain ⟨w3,hw3⟩:∃ w3,w2.drewN nq=w3:=⟨_,rfl⟩;have hB3:=hB2.drewN nq;have hR3:=hR2.drewN nq;have hk3:=hk2.drewN nq;have hW3:=hW.drewN nq;have hkp3:Kp w (w2.drewN nq):=hkp2.drewN nq;rw[hw3] at hB3 hR3 hk3 hW3 hkp3 ⊢;clear hw3 hB2 hR2 hk2 hW hkp2;have HKL2:=HKL.out;have HWL:=aaL l 64;go_loopw[8,9,10,11,12,13,14,15,41] (fun sa sb sc sd se sf sg sh i wr=>∃ t:Nat,t≤64∧i=.int .i64 t∧(∃ r,r=rnds k (acA l 64) s t∧sa=.int .u32 (ar1 r.a)∧sb=.int .u32 (ar1 r.b)∧sc=.int .u32 (ar1 r.c)∧sd=.int .u32 (ar1 r.d)∧se=.int .u32 (ar1 r.e)∧sf=.int .u32 (ar1 r.f)∧sg=.int .u32 (ar1 r.g)∧sh=.int .u32 (ar1 r.h))∧∃ n,wr=w3.drewN n) (fun _ _ _ _ _ _ _ _ i _=>64 - (intOf i).toNat)
 case atStart=>exact ⟨0,by omega,rfl,⟨s,rfl,rfl,rfl,rfl,rfl,rfl,rfl,rfl,rfl⟩,0,rfl⟩
 case round=>
  obtain ⟨t,ht,rfl,⟨r,hr,rfl,rfl,rfl,rfl,rfl,rfl,rfl,rfl⟩,n,rfl⟩:=hrel;by_cases hlt:t<64
  ·have ck:=(hk3.drewN n).cell t (by omega)
   have cw:=(hW3.drewN n).cell t (by omega);have HR:=Lib.hid hr;have q:(t:Int)<64:=by omega
   obtain ⟨wn,hwn⟩:∃ wn,w3.drewN n=wn:=⟨_,rfl⟩;rw[hwn] at ck cw ⊢;have HWN:=Lib.hid hwn;clear hr HKL2 HWL hwn;have hsg:IntKind.u32.signed=false:=rfl;go_wp2_with ((go_at_call 268;refine (alu _ _).mono ?_;rintro e w' ⟨rfl,rfl⟩))
   go_quiet ((go_at_call 268;exact afe (aoY _ _)))
   go_wp2_with ((go_at_call 268;refine (alu _ _).mono ?_;rintro e w' ⟨rfl,rfl⟩))
   go_roundw
   case rel=>exact ⟨t+1,by omega,by go_num,⟨rnd r (k.getD t 0) ((acA l 64).getD t 0),by rw[HR.out];rfl,rfl,rfl,rfl,rfl,rfl,rfl,rfl,rfl⟩,n+nq,by rw[← HWN.out,World.drewN_drewN]⟩
   case measure=>simp[intOf];omega
  ·obtain rfl:t=64:=by omega
   have HR:=Lib.hid hr;have hB4:=hB3.drewN n;have hR4:=hR3.drewN n;have hkp4:Kp w (w3.drewN n):=hkp3.drewN n;obtain ⟨w4,hw4⟩:∃ w4,w3.drewN n=w4:=⟨_,rfl⟩;rw[hw4] at hB4 hR4 hkp4 ⊢;clear hr HKL2 HWL hw4 hB3 hR3 hkp3 hk3 hW3 ht hlt;go_wp2_with fail;go_loopw[105] (fun i wr=>∃ t:Nat,t≤8∧i=.int .i64 t∧Arr 252 wr w.heap.size (mix s.list (s.add r).list t)∧Arr 252 wr (w.heap.size+1) (aaD 8)∧Kp w wr) (fun i _=>8 - (intOf i).toNat)
   case atStart=>exact ⟨0,by omega,rfl,hB4,hR4,hkp4⟩
   case round=>
    clear hB4 hR4 hkp4;obtain ⟨i,hi,rfl,hB,hR,hkp⟩:=hrel;by_cases hlt:i<8
    ·have cb:=hB.cell i (by rw[afm s.list (s.add r).list i rfl hi];exact hlt)
     have cf:=hB.frozen i (by rw[afm s.list (s.add r).list i rfl hi];exact hlt);rw[aqA s.list (s.add r).list i rfl hlt] at cb;have hs:=anG s.list (s.add r).list i rfl hlt _ (aqB s r i hlt);have hidx:∀ W,(Instr.index 252 (.agg (aam r.list)) (.int .i64 i)).run Tryz.prog W=.ok (.int .u32 (ar1 (r.list.getD i 0))) W:=fun W=>by
      obtain ⟨ie,hie,hsz⟩:=alw;exact adj W 252 247 8 ie _ Tryz.underlying252 hie hsz Tryz.underlying247 rfl _ rfl i hlt _ (afk r.list i hlt)
     have hidx':∀ W,(Instr.index 252 (.agg #[.int .u32 (ar1 r.a),.int .u32 (ar1 r.b),.int .u32 (ar1 r.c),.int .u32 (ar1 r.d),.int .u32 (ar1 r.e),.int .u32 (ar1 r.f),.int .u32 (ar1 r.g),.int .u32 (ar1 r.h)]) (.int .i64 i)).run Tryz.prog W=.ok (.int .u32 (ar1 (r.list.getD i 0))) W:=hidx;generalize s.list.getD i 0=x at *;generalize r.list.getD i 0=y at *;have HS:=Lib.hid hs;have q:(i:Int)<8:=by omega
     clear hs hidx;go_wp2_with fail;go_roundw
     case rel=>exact ⟨i+1,by omega,by go_num,hB.setTo i _ HS.out,hR.other _ _ (by simp),Below.setCell hkp (by simp) _⟩
     case measure=>simp[intOf];omega
    ·obtain rfl:i=8:=by omega
     have hm:mix s.list (s.add r).list 8=(s.add r).list:=rfl;rw[hm] at hB;clear hm;go_wp2_with (first
      | (refine aaC Tryz.underlying252 (by kernel_rfl) rfl (.tmp 3) rfl w.heap.size (s.add r).list rfl hB rfl ?_)
      | (refine aar (by kernel_rfl) rfl rfl (.tmp 6) (.tmp 116) rfl (w.heap.size+1) (aaD 8) (s.add r).list rfl rfl hR rfl rfl ?_;intro w5 hR5 hbut))
     refine bodyPost_ret (abV Tryz.underlying252 (by kernel_rfl) rfl _ _ (w.heap.size+1) (s.add r).list rfl hR5 rfl) rfl ?_;exact ⟨by rw[HR.out];rfl,hbut.below hkp (by omega)⟩
end Go.Proofs.YthmhklmkgkfcpaaGreatDoor
namespace Go.Proofs.YthmhklmkgkfcpaaGreatDoor
open Go.RowKit Go.Shelf
attribute [local go_sem] Oper.semAt_some
theorem ao7 (w:World):Calls Tryz.prog 245 #[] w fun e w'=>e=.returned (.agg (aam keyL))∧Kp w w':=by
 refine (callsIn_wide (n:=4)).1 ?_;refine callsIn_of_wp_marks Tryz.func245 rfl trivial ?_ rfl;refine wpIn_wide.2 ?_;simp only[Tryz.ntmps245,List.append_toArray,List.size_toArray,List.length_nil,Nat.reduceSub,Array.replicate_succ,Array.replicate_zero,List.push_toArray,List.nil_append,List.cons_append];go_wp2;obtain ⟨W0,hW0⟩:∃ W0,((w.alloc (.cells (aam (aaD 64)) 264)).alloc (.cells (aam (aaD 64)) 264)).alloc (.cells #[.int .i64 0] 3)=W0:=⟨_,rfl⟩;change Code.wp Tryz.prog _ _ _ (((w.alloc (.cells (aam (aaD 64)) 264)).alloc (.cells (aam (aaD 64)) 264)).alloc (.cells #[.int .i64 0] 3));rw[hW0];have hs0:W0.heap.size=w.heap.size+3:=by rw[← hW0];simp
 have hR:Arr 264 W0 w.heap.size (aaD 64):=by rw[← hW0];exact ((Arr.new _ w _ _ rfl).alloc _).alloc _
 have hA:Arr 264 W0 (w.heap.size+1) (aaD 64):=by
  have:=(Arr.new 264 (w.alloc (.cells (aam (aaD 64)) 264)) (aam (aaD 64)) (aaD 64) rfl).alloc (.cells #[.int .i64 0] 3);rw[World.size_alloc,hW0] at this;exact this
 have hI:W0.cell? ⟨w.heap.size+1+1,0,none⟩=some (.int .i64 0)∧W0.frozen? ⟨w.heap.size+1+1,0,none⟩=false:=by
  have:=heap_alloc_new ((w.alloc (.cells (aam (aaD 64)) 264)).alloc (.cells (aam (aaD 64)) 264)) (.cells #[.int .i64 0] 3);rw[World.size_alloc,World.size_alloc,hW0] at this;exact ⟨by rw[cell_of_row W0 _ 0 _ _ _ this];rfl,by simp[World.frozen?,this]⟩
 have hK:Kp w W0:=by rw[← hW0];exact (((Kp.refl w).alloc _).alloc _).alloc _
 clear hW0;refine wpIn_wide.1 (abn (F:=Fence.wide) (n:=4) rfl (by omega) (gf:=264) (lb:=#[]) rfl trivial (enters_of Tryz.func264 (by kernel_rfl) rfl) (encs:=fun i=>#[.int .u64 (ac0 i)]) (N:=64) (X:=fun k=>k=w.heap.size+1∨k=w.heap.size+1+1) (by omega)
  (anF (4 - 1) (by omega) _ W0 (by omega)) (fun _=>rfl)
  (fun i A=>Arr 264 A w.heap.size (aaD 64)∧Arr 264 A (w.heap.size+1) (mix (aaD 64) keyL i)∧A.cell? ⟨w.heap.size+1+1,0,none⟩=some (.int .i64 i)∧A.frozen? ⟨w.heap.size+1+1,0,none⟩=false∧Kp w A)
  (fun i A B h hb=>⟨h.1.below hb (by omega),h.2.1.below hb (by omega),(hb.cell (p:=⟨w.heap.size+1+1,0,none⟩) (by simp;omega)).trans h.2.2.1,(hb.frozen (p:=⟨w.heap.size+1+1,0,none⟩) (by simp;omega)).trans h.2.2.2.1,Below.trans h.2.2.2.2 (hb.mono (by omega))⟩)
  ⟨hR,hA,hI.1,hI.2,hK⟩
  (fun i=>{ tmps:=#[.pointer (some ⟨w.heap.size,0,none⟩),.pointer (some ⟨w.heap.size+1,0,none⟩),.pointer (some ⟨w.heap.size+1+1,0,none⟩),.int .u64 (ac0 i),.int .u64 (ac0 i),undef,undef,undef,undef,undef,undef,undef],defers:=[] }) ?assign ?body ?done)
 case assign=>
  intro l i W K hK;gi_wp2
  exact hK
 case body=>
  rintro l i W ⟨hR,hA,hc,hf,hK⟩ hi;obtain ⟨hp1,hp2⟩:=aiw ⟨i,hi⟩;simp only at hp1 hp2;have hkey:keyL.getD i 0=anD (ac0 i):=by
   rw[← aqz,List.getD_eq_getElem?_getD,List.getElem?_map,List.getElem?_range hi];rfl
  have hlen:(mix (aaD 64) keyL i).length=64:=by rw[afm (aaD 64) keyL i (by simp[aaR];rfl) (by rw[aaR];omega),aaR]
  have hset:=anG (aaD 64) keyL i (by simp[aaR];rfl) (by rw[aaR];omega) _ hkey;have ca:=hA.cell i (by omega);have cf:=hA.frozen i (by omega);generalize ac0 i=p at *;have hii:(i:Int)<64:=by omega
  have HS:=Lib.hid hset;clear hset hkey hlen;have hmx:Tryz.prog.follows .mixedOrders=true:=by kernel_rfl
  gi_wp2
  gi_region_with_o (refine ⟨trivial,?_⟩;gi_at_call 265;refine (CallsIn.inRound l (callsIn_wide.2 (aju p _ hp1 hp2))).mono ?_;rintro e w' ⟨rfl,rfl⟩)
  all_goals gi_wp2
  all_goals exact ⟨(((Same.refl _ W).setCell ⟨w.heap.size+1,i,none⟩ _ (.inl rfl)).setCell ⟨w.heap.size+1+1,0,none⟩ _ (.inr rfl)).drew,((hR.other _ _ (by simp)).other _ _ (by simp;omega)).drew,((hA.setTo i _ HS.out).other _ _ (by simp)).drew,(Below.setCell (Below.setCell hK (by simp) _) (by simp;omega) _).drew⟩
 case done=>
  rintro D W hD ⟨hR,hA,hc,hf,hK⟩ hd;have hm:mix (aaD 64) keyL 64=keyL:=rfl;rw[hm] at hA;clear hm;go_wp2_with (first
   | (refine aaC Tryz.underlying264 (by kernel_rfl) rfl (.tmp 1) rfl (w.heap.size+1) keyL rfl hA rfl ?_)
   | (refine aar (by kernel_rfl) rfl rfl (.tmp 0) (.tmp 11) rfl w.heap.size (aaD 64) keyL rfl rfl hR (aaR 64) rfl ?_;intro w5 hR5 hbut))
  have hd5:=(hbut.other D (by omega)).trans hd;refine ⟨by simp,.inl ⟨_,_,rfl,run_takeDeferred hd5,?_⟩⟩;exact ⟨_,abV Tryz.underlying264 (by kernel_rfl) rfl _ _ w.heap.size keyL rfl ((World.putObj_heap_other (by omega)).trans hR5) rfl,rfl,abI (hbut.below hK (Nat.le_refl _)) (by omega) (by rw[hbut.size];exact hK.size) _⟩
end Go.Proofs.YthmhklmkgkfcpaaGreatDoor
namespace Go.Proofs.YthmhklmkgkfcpaaGreatDoor
open Go.RowKit
attribute [local go_sem] agu aoV ant aoW u_or anu ajp arx arv aqt
theorem ao8 (s:S8)(v:Value)(all:List UInt8)(at':Nat)(gk ck:Nat)(k:List UInt32)(w:World)(h:Rd w v all)(hl:at'+64≤all.length)(hk:Arr 247 w gk k)(hkl:k.length=64):
  Calls Tryz.prog 226 #[.agg (aam s.list),v,.int .i64 at',.slice (some ⟨gk,0,none⟩) 64 ck] w fun e w'=>e=.returned (.agg (aam (comp k s ((all.drop at').take 64)).list))∧Kp w w':=by
 obtain ⟨l,hL⟩:∃ l,(all.drop at').take 64=l:=⟨_,rfl⟩;rw[hL];have HKL:=Lib.hid hkl;have HLL:=Lib.hid hL;clear hL hkl;go_enter Tryz.func226,Tryz.ntmps226;go_wp2_with ((at_make;(refine aaS (z:=.int .u32 0) (b:=4) Tryz.underlying250 (by kernel_rfl) rfl (by decide) rfl _ _ rfl 64 rfl rfl (by decide) ?_);intro w1 hw1;have HW1:=Lib.hid hw1;clear hw1))
 have hR:Arr 252 ((w.alloc (.cells (aam s.list) 252)).alloc (.cells (aam (aaD 8)) 252)) (w.heap.size+1) (aaD 8):=by
  have:=Arr.new 252 (w.alloc (.cells (aam s.list) 252)) (aam (aaD 8)) (aaD 8) rfl;rw[World.size_alloc] at this;exact this
 have hB0:Arr 252 w1 w.heap.size s.list:=by rw[HW1.out];exact ((Arr.new _ w _ s.list rfl).alloc _).alloc _
 have hR0:Arr 252 w1 (w.heap.size+1) (aaD 8):=by rw[HW1.out];exact hR.alloc _
 have hW0:Arr 247 w1 (w.heap.size+1+1) (upto l 0):=by
  rw[HW1.out];have:=Arr.new 247 ((w.alloc (.cells (aam s.list) 252)).alloc (.cells (aam (aaD 8)) 252)) (aam (aaD 64)) (upto l 0) rfl;rw[World.size_alloc,World.size_alloc,ajv] at this;exact this
 have hK0:Kp w w1:=by rw[HW1.out];exact (((Kp.refl w).alloc _).alloc _).alloc _
 clear hR;go_loopw[10] (fun i wr=>∃ t:Nat,t≤16∧i=.int .i64 t∧Arr 252 wr w.heap.size s.list∧Arr 252 wr (w.heap.size+1) (aaD 8)∧Arr 247 wr (w.heap.size+1+1) (upto l t)∧Kp w wr) (fun i _=>16 - (intOf i).toNat)
 case atStart=>exact ⟨0,by omega,rfl,hB0,hR0,hW0,hK0⟩
 case round=>
  clear hB0 hR0 hW0 hK0 HW1;obtain ⟨t,ht,rfl,hB,hR,hW,hkp⟩:=hrel;by_cases hlt:t<16
  ·have hg:∀ j,j<64→l.getD j 0=all.getD (at'+j) 0:=fun j hj=>by
    rw[← HLL.out,List.getD_eq_getElem?_getD,List.getElem?_take_of_lt hj,List.getElem?_drop,List.getD_eq_getElem?_getD]
   have hn:ab6 l (acA l t) t=adW (all.getD (at'+4*t) 0) (all.getD (at'+4*t+1) 0) (all.getD (at'+4*t+2) 0) (all.getD (at'+4*t+3) 0):=by
    unfold ab6;rw[if_pos hlt,hg _ (by omega),hg _ (by omega),hg _ (by omega),hg _ (by omega)];simp only[Nat.add_assoc]
   have hset:=(af8 l t (by omega));rw[hn] at hset;have HS:=Lib.hid hset;have hlen:=acD l t (by omega);have hlenm:all.length≤maxLen:=by
    obtain ⟨a,c,_,h1,h2⟩:=h.shape;omega
   unfold maxLen at hlenm;clear hg hn hset;go_wp2_with fail;refine (ao1 _ v all (at'+4*t) _ (h.kp hkp) (by omega) (by simp)).mono ?_;rintro e w' ⟨rfl,n,rfl⟩;have ca:=(hW.drewN n).cell t (by omega);have cf:=(hW.drewN n).frozen t (by omega);have q:(t:Int)<64:=by omega
   clear hlen;go_wp2_with fail;go_roundw
   case rel=>exact ⟨t+1,by omega,by go_num,(hB.drewN n).other _ _ (by simp;omega),(hR.drewN n).other _ _ (by simp),(hW.drewN n).setTo t _ HS.out,Below.setCell (hkp.drewN n) (by simp;omega) _⟩
   case measure=>simp[intOf];omega
  ·obtain rfl:t=16:=by omega
   clear ht hlt;go_wp2_with fail;go_loopw[11] (fun i wr=>∃ t:Nat,16≤t∧t≤64∧i=.int .i64 t∧Arr 252 wr w.heap.size s.list∧Arr 252 wr (w.heap.size+1) (aaD 8)∧Arr 247 wr (w.heap.size+1+1) (upto l t)∧Kp w wr) (fun i _=>64 - (intOf i).toNat)
   case atStart=>exact ⟨16,by omega,by omega,rfl,hB,hR,hW,hkp⟩
   case round=>
    clear hB hR hW hkp;obtain ⟨t,h16,ht,rfl,hB,hR,hW,hkp⟩:=hrel;by_cases hlt:t<64
    ·have hlen:=acD l t (by omega)
     have hn:ab6 l (acA l t) t=wadd (wadd (wadd (small 17 19 10 ((upto l t).getD (t - 2) 0)) ((upto l t).getD (t - 7) 0)) (small 7 18 3 ((upto l t).getD (t - 15) 0))) ((upto l t).getD (t - 16) 0):=by
      unfold ab6;rw[if_neg (by omega),acO l t _ (by omega),acO l t _ (by omega),acO l t _ (by omega),acO l t _ (by omega)]
     have hset:=(af8 l t (by omega));rw[hn] at hset;have c2:=hW.cell (t - 2) (by omega);have c7:=hW.cell (t - 7) (by omega);have c15:=hW.cell (t - 15) (by omega);have c16:=hW.cell (t - 16) (by omega);have ca:=hW.cell t (by omega);have cf:=hW.frozen t (by omega);generalize (upto l t).getD (t - 2) 0=x2 at *;generalize (upto l t).getD (t - 7) 0=x7 at *;generalize (upto l t).getD (t - 15) 0=x15 at *;generalize (upto l t).getD (t - 16) 0=x16 at *;have i2:IntKind.i64.wrap ((t:Int) - 2)=(t:Int) - 2:=IntWalk.i64_in _ (by omega);have i7:IntKind.i64.wrap ((t:Int) - 7)=(t:Int) - 7:=IntWalk.i64_in _ (by omega);have i15:IntKind.i64.wrap ((t:Int) - 15)=(t:Int) - 15:=IntWalk.i64_in _ (by omega);have i16:IntKind.i64.wrap ((t:Int) - 16)=(t:Int) - 16:=IntWalk.i64_in _ (by omega);have n2:((t:Int) - 2).toNat=t - 2:=by omega
     have n7:((t:Int) - 7).toNat=t - 7:=by omega
     have n15:((t:Int) - 15).toNat=t - 15:=by omega
     have n16:((t:Int) - 16).toNat=t - 16:=by omega
     have p2:(2:Int)≤(t:Int):=by omega
     have p7:(7:Int)≤(t:Int):=by omega
     have p15:(15:Int)≤(t:Int):=by omega
     have p16:(16:Int)≤(t:Int):=by omega
     have q2:(t:Int) - 2<64:=by omega
     have q7:(t:Int) - 7<64:=by omega
     have q15:(t:Int) - 15<64:=by omega
     have q16:(t:Int) - 16<64:=by omega
     have q:(t:Int)<64:=by omega
     have HS:=Lib.hid hset;clear hset hn hlen;go_wp2_with ((go_at_call 258;refine (aiv _ _ _ (by decide) (by decide)).mono ?_;rintro e w' ⟨rfl,rfl⟩))
     go_still_tail 18,(by kernel_rfl)
     go_wp2_with fail;go_roundw
     case rel=>
      repeat apply Exists.intro
      refine ⟨?_,rfl⟩;exact ⟨t+1,by omega,by omega,by go_num,(hB.other _ _ (by simp;omega)).drew,(hR.other _ _ (by simp)).drew,(hW.setTo t _ HS.out).drew,(Below.setCell hkp (by simp;omega) _).drew⟩
     case measure=>simp[intOf];omega
    ·obtain rfl:t=64:=by omega
     rw[alv] at hW;have c0:wr.cell? ⟨w.heap.size,0,none⟩=some (.int .u32 (ar1 s.a)):=hB.cell 0 (Nat.lt_of_sub_eq_succ rfl);have c1:wr.cell? ⟨w.heap.size,1,none⟩=some (.int .u32 (ar1 s.b)):=hB.cell 1 (Nat.lt_of_sub_eq_succ rfl);have c2:wr.cell? ⟨w.heap.size,2,none⟩=some (.int .u32 (ar1 s.c)):=hB.cell 2 (Nat.lt_of_sub_eq_succ rfl);have c3:wr.cell? ⟨w.heap.size,3,none⟩=some (.int .u32 (ar1 s.d)):=hB.cell 3 (Nat.lt_of_sub_eq_succ rfl);have c4:wr.cell? ⟨w.heap.size,4,none⟩=some (.int .u32 (ar1 s.e)):=hB.cell 4 (Nat.lt_of_sub_eq_succ rfl);have c5:wr.cell? ⟨w.heap.size,5,none⟩=some (.int .u32 (ar1 s.f)):=hB.cell 5 (Nat.lt_of_sub_eq_succ rfl);have c6:wr.cell? ⟨w.heap.size,6,none⟩=some (.int .u32 (ar1 s.g)):=hB.cell 6 (Nat.lt_of_sub_eq_succ rfl);have c7:wr.cell? ⟨w.heap.size,7,none⟩=some (.int .u32 (ar1 s.h)):=hB.cell 7 (Nat.lt_of_sub_eq_succ rfl);have hk3:=hk.kp hkp;clear h hl hk;go_wp2_with fail;have C:=Lib.hid (And.intro c0 (And.intro c1 (And.intro c2 (And.intro c3 (And.intro c4 (And.intro c5 (And.intro c6 c7)))))));clear c0 c1 c2 c3 c4 c5 c6 c7;have HKL2:=HKL.out;have HWL:=aaL l 64;go_loopw[16,17,18,19,20,21,22,23,24] (fun sa sb sc sd se sf sg sh i wq=>∃ t:Nat,t≤64∧i=.int .i64 t∧(∃ r,r=rnds k (acA l 64) s t∧sa=.int .u32 (ar1 r.a)∧sb=.int .u32 (ar1 r.b)∧sc=.int .u32 (ar1 r.c)∧sd=.int .u32 (ar1 r.d)∧se=.int .u32 (ar1 r.e)∧sf=.int .u32 (ar1 r.f)∧sg=.int .u32 (ar1 r.g)∧sh=.int .u32 (ar1 r.h))∧∃ n,wq=wr.drewN n) (fun _ _ _ _ _ _ _ _ i _=>64 - (intOf i).toNat)
     case atStart=>exact ⟨0,by omega,rfl,⟨s,rfl,rfl,rfl,rfl,rfl,rfl,rfl,rfl,rfl⟩,0,rfl⟩
     case round=>
      obtain ⟨t,ht,rfl,⟨r,hr,rfl,rfl,rfl,rfl,rfl,rfl,rfl,rfl⟩,n,rfl⟩:=hrel;by_cases hlt:t<64
      ·have ck:=(hk3.drewN n).cell t (by omega)
       have cw:=(hW.drewN n).cell t (by omega);have HR:=Lib.hid hr;have q:(t:Int)<64:=by omega
       obtain ⟨wn,hwn⟩:∃ wn,wr.drewN n=wn:=⟨_,rfl⟩;rw[hwn] at ck cw ⊢;have HWN:=Lib.hid hwn;clear hr HKL2 HWL hwn;have hsg:IntKind.u32.signed=false:=rfl;go_wp2_with fail;go_quiet ((go_at_call 258;exact afe (aiv _ _ _ (by decide) (by decide))))
       go_wp2_with ((go_at_call 258;refine (aiv _ _ _ (by decide) (by decide)).mono ?_;rintro e w' ⟨rfl,rfl⟩))
       go_roundw
       case rel=>
        repeat apply Exists.intro
        refine ⟨?_,rfl⟩;exact ⟨t+1,by omega,by go_num,⟨rnd r (k.getD t 0) ((acA l 64).getD t 0),by rw[HR.out];rfl,rfl,rfl,rfl,rfl,rfl,rfl,rfl,rfl⟩,n+nq,by rw[← HWN.out,World.drewN_drewN]⟩
       case measure=>simp[intOf];omega
      ·obtain rfl:t=64:=by omega
       have HR:=Lib.hid hr;clear hr HKL2 HWL;obtain ⟨c0,c1,c2,c3,c4,c5,c6,c7⟩:=C.out;go_wp2_with ((refine aar (by kernel_rfl) rfl rfl (.tmp 8) (.tmp 206) rfl (w.heap.size+1) (aaD 8) (s.add r).list rfl rfl (hR.drewN n) rfl rfl ?_;intro w5 hR5 hbut))
       refine bodyPost_ret (abV Tryz.underlying252 (by kernel_rfl) rfl _ _ (w.heap.size+1) (s.add r).list rfl hR5 rfl) rfl ?_;exact ⟨by rw[HR.out];rfl,hbut.below (hkp.drewN n) (by omega)⟩
theorem anH (w:World):Calls Tryz.prog 246 #[] w fun e w'=>e=.returned (.agg (aam abi.list))∧Kp w w':=by
 go_enter Tryz.func246,Tryz.ntmps246;have hA:Arr 252 (w.alloc (.cells (aam (aaD 8)) 252)) w.heap.size (aaD 8):=Arr.new _ w _ _ rfl;go_wp2_with ((refine aar (by kernel_rfl) rfl rfl (.tmp 0) (.tmp 1) rfl w.heap.size (aaD 8) abi.list rfl rfl hA rfl rfl ?_;intro w5 hR5 hbut))
 refine bodyPost_ret (abV Tryz.underlying252 (by kernel_rfl) rfl _ _ w.heap.size abi.list rfl hR5 rfl) rfl ?_;exact ⟨rfl,hbut.below ((Kp.refl w).alloc _) (Nat.le_refl _)⟩
theorem ajx (w:World):Calls Tryz.prog 225 #[] w fun e w'=>e=.returned (.agg (aam abi.list))∧Kp w w':=by
 go_enter Tryz.func225,Tryz.ntmps225;have hA:Arr 252 (w.alloc (.cells (aam (aaD 8)) 252)) w.heap.size (aaD 8):=Arr.new _ w _ _ rfl;go_wp2_with ((refine aar (by kernel_rfl) rfl rfl (.tmp 0) (.tmp 1) rfl w.heap.size (aaD 8) abi.list rfl rfl hA rfl rfl ?_;intro w5 hR5 hbut))
 refine bodyPost_ret (abV Tryz.underlying252 (by kernel_rfl) rfl _ _ w.heap.size abi.list rfl hR5 rfl) rfl ?_;exact ⟨rfl,hbut.below ((Kp.refl w).alloc _) (Nat.le_refl _)⟩
theorem akw (w:World):Calls Tryz.prog 224 #[] w fun e w'=>(∃ g,e=.returned (.slice (some ⟨g,0,none⟩) 64 64)∧Arr 247 w' g keyL∧w.heap.size≤g)∧Kp w w':=by
 go_enter Tryz.func224,Tryz.ntmps224;go_wp2;go_ret;exact ⟨⟨w.heap.size,rfl,Arr.new _ w _ _ rfl,Nat.le_refl _⟩,(Kp.refl w).alloc _⟩
def ajy (i:Int):UInt32:=if 0≤i∧i<64 then keyL.getD i.toNat 0 else 0
section
variable {P : Program}
end
theorem Arr.cells8 {T:TypeId}{w:World}{g:Nat}{s:S8}(h:Arr T w g s.list):
  w.cell? ⟨g,0,none⟩=some (.int .u32 (ar1 s.a))∧w.cell? ⟨g,1,none⟩=some (.int .u32 (ar1 s.b))∧w.cell? ⟨g,2,none⟩=some (.int .u32 (ar1 s.c))∧w.cell? ⟨g,3,none⟩=some (.int .u32 (ar1 s.d)) ∧
  w.cell? ⟨g,4,none⟩=some (.int .u32 (ar1 s.e))∧w.cell? ⟨g,5,none⟩=some (.int .u32 (ar1 s.f))∧w.cell? ⟨g,6,none⟩=some (.int .u32 (ar1 s.g))∧w.cell? ⟨g,7,none⟩=some (.int .u32 (ar1 s.h)):=
 ⟨h.cell 0 (Nat.lt_of_sub_eq_succ rfl),h.cell 1 (Nat.lt_of_sub_eq_succ rfl),h.cell 2 (Nat.lt_of_sub_eq_succ rfl),h.cell 3 (Nat.lt_of_sub_eq_succ rfl),h.cell 4 (Nat.lt_of_sub_eq_succ rfl),h.cell 5 (Nat.lt_of_sub_eq_succ rfl),h.cell 6 (Nat.lt_of_sub_eq_succ rfl),h.cell 7 (Nat.lt_of_sub_eq_succ rfl)⟩
theorem Arr.frozen8 {T:TypeId}{w:World}{g:Nat}{s:S8}(h:Arr T w g s.list):
  w.frozen? ⟨g,0,none⟩=false∧w.frozen? ⟨g,1,none⟩=false∧w.frozen? ⟨g,2,none⟩=false∧w.frozen? ⟨g,3,none⟩=false∧w.frozen? ⟨g,4,none⟩=false∧w.frozen? ⟨g,5,none⟩=false∧w.frozen? ⟨g,6,none⟩=false∧w.frozen? ⟨g,7,none⟩=false:=
 ⟨h.frozen 0 (Nat.lt_of_sub_eq_succ rfl),h.frozen 1 (Nat.lt_of_sub_eq_succ rfl),h.frozen 2 (Nat.lt_of_sub_eq_succ rfl),h.frozen 3 (Nat.lt_of_sub_eq_succ rfl),h.frozen 4 (Nat.lt_of_sub_eq_succ rfl),h.frozen 5 (Nat.lt_of_sub_eq_succ rfl),h.frozen 6 (Nat.lt_of_sub_eq_succ rfl),h.frozen 7 (Nat.lt_of_sub_eq_succ rfl)⟩
theorem Arr.set8 {T:TypeId}{w:World}{g:Nat}{s:S8}(h:Arr T w g s.list)(r:S8):
  Arr T ((((((((w.setCell ⟨g,0,none⟩ (.int .u32 (ar1 r.a))).setCell ⟨g,1,none⟩ (.int .u32 (ar1 r.b))).setCell ⟨g,2,none⟩ (.int .u32 (ar1 r.c))).setCell ⟨g,3,none⟩ (.int .u32 (ar1 r.d))).setCell ⟨g,4,none⟩ (.int .u32 (ar1 r.e))).setCell ⟨g,5,none⟩ (.int .u32 (ar1 r.f))).setCell ⟨g,6,none⟩ (.int .u32 (ar1 r.g))).setCell ⟨g,7,none⟩ (.int .u32 (ar1 r.h))) g r.list:=
 (((((((h.set 0 r.a _ rfl).set 1 r.b _ rfl).set 2 r.c _ rfl).set 3 r.d _ rfl).set 4 r.e _ rfl).set 5 r.f _ rfl).set 6 r.g _ rfl).set 7 r.h _ rfl
theorem ac7 {B:Nat}{a w:World}(h:Below B a w){g:Nat}(hg:B≤g)(v0 v1 v2 v3 v4 v5 v6 v7:Value):
  Below B a ((((((((w.setCell ⟨g,0,none⟩ v0).setCell ⟨g,1,none⟩ v1).setCell ⟨g,2,none⟩ v2).setCell ⟨g,3,none⟩ v3).setCell ⟨g,4,none⟩ v4).setCell ⟨g,5,none⟩ v5).setCell ⟨g,6,none⟩ v6).setCell ⟨g,7,none⟩ v7):=
 (((((((h.setCell (p:=⟨g,0,none⟩) hg _).setCell (p:=⟨g,1,none⟩) hg _).setCell (p:=⟨g,2,none⟩) hg _).setCell (p:=⟨g,3,none⟩) hg _).setCell (p:=⟨g,4,none⟩) hg _).setCell (p:=⟨g,5,none⟩) hg _).setCell (p:=⟨g,6,none⟩) hg _).setCell (p:=⟨g,7,none⟩) hg _
theorem agg8 (r:S8):Value.agg (aam r.list)=.agg #[.int .u32 (ar1 r.a),.int .u32 (ar1 r.b),.int .u32 (ar1 r.c),.int .u32 (ar1 r.d),.int .u32 (ar1 r.e),.int .u32 (ar1 r.f),.int .u32 (ar1 r.g),.int .u32 (ar1 r.h)]:=rfl
end Go.Proofs.YthmhklmkgkfcpaaGreatDoor
namespace Go.Proofs.YthmhklmkgkfcpaaGreatDoor
open Go.RowKit Go.Shelf
attribute [local go_sem] Oper.semAt_some
theorem agA (a:Option Addr)(n c:Nat)(w:World):
  Calls Tryz.prog 247 #[.slice a n c,.int .i64 64] w fun e w'=>e=.returned (.func (.func 266) #[] #[.pointer (some ⟨w.heap.size,0,none⟩),.pointer (some ⟨w.heap.size+1,0,none⟩)]) ∧
   (w.alloc (.cells #[.slice a n c] 24)).alloc (.cells #[.int .i64 64] 3)=w':=by
 go_enter Tryz.func247,Tryz.ntmps247;go_wp2;go_ret;exact ⟨rfl,rfl⟩
def aa8 (a:Option Addr)(i:Nat):Value:=
 match a with
 | some ⟨b,o,_⟩=>.slice (some ⟨b,o+64*i,none⟩) 64 64
 | none=>undef
theorem ajD {X:Nat→Prop}{A B:World}(h:Same X A B){p:Addr}{v:Value}(hv:A.cell? p=some v)(hx:¬X p.block):B.cell? p=some v:=
 (World.cell?_of_block (w:=A) (h.block p.block (World.block_lt_of_cell? A p hv) hx)).trans hv
theorem aeT (m:Nat)(hm:1≤m)(X:Nat→Prop)(w:World)(a:Option Addr)(N c B2 B3:Nat)(hv:w.cell? ⟨B2,0,none⟩=some (.slice a (64*N) c))(hn:w.cell? ⟨B3,0,none⟩=some (.int .i64 64))
  (hX2:¬X B2) (hX3:¬X B3) (hc:64*N≤c) (hcm:c≤maxLen) (ha:0<N→∃ b o,a=some ⟨b,o,none⟩):
  air Fence.wide m Tryz.prog 266 #[.pointer (some ⟨B2,0,none⟩),.pointer (some ⟨B3,0,none⟩)] (fun i=>#[aa8 a i]) N X w:=by
 intro l J W hb hl1 hl2 hJ hY h0;have HJ:=Lib.hid hJ;have HY:=Lib.hid hY;have hv1:=(hb.cell (p:=⟨B2,0,none⟩) (World.block_lt_of_cell? w _ hv)).trans hv;have hn1:=(hb.cell (p:=⟨B3,0,none⟩) (World.block_lt_of_cell? w _ hn)).trans hn;have hB2:B2≠l:=by have:=World.block_lt_of_cell? w _ hv;simp at this;omega
 have hB3:B3≠l:=by have:=World.block_lt_of_cell? w _ hn;simp at this;omega
 have HB:=Lib.hid (And.intro hB2 hB3);have HA:=Lib.hid ha;unfold maxLen at hcm;clear hJ hY hv hn hB2 hB3 ha;refine callsIn_of_wp Tryz.func266 rfl trivial ?_ rfl;simp only[Tryz.ntmps266,List.append_toArray,List.size_toArray,List.length_cons,List.length_nil,Nat.reduceAdd,Nat.reduceSub,Array.replicate_succ,Array.replicate_zero,List.push_toArray,List.nil_append,List.cons_append];gi_wp2
 gi_loopw [4] (fun p wr=>∃ k:Nat,k≤N∧p=.int .i64 (64*(k:Int))∧wr.cell? ⟨B2,0,none⟩=some (.slice a (64*N) c)∧wr.cell? ⟨B3,0,none⟩=some (.int .i64 64)∧J k wr) (fun p _=>64*N - (intOf p).toNat)
 case atStart=>exact ⟨0,by omega,rfl,hv1,hn1,h0⟩
 case round=>
  clear hv1 hn1 h0;obtain ⟨k,hk,rfl,hv,hn,hj⟩:=hrel;by_cases hlt:k<N
  ·obtain ⟨b,o,rfl⟩:=HA.out (by omega)
   have hlt':64*(k:Int)<64*(N:Int):=by omega
   have hnc:¬c=64*k:=by omega
   have e1:64*N - 64*k=64*(N - k):=by omega
   have hle:64*(k:Int)+64≤64*(N:Int):=by omega
   have hlec:64*k+64≤c:=by omega
   have hkk:64*k+64 - 64*k=64:=by omega
   gi_wp2
   gi_region
   obtain ⟨fn,tmps,assign,body,hy,hR⟩:=HY.out k wr.drew hlt (HJ.out _ _ _ hj ((Below.refl _ _).drew));simp only[aa8] at hy;gi_wp2
   refine hR.mono ?_;rintro e W3 ⟨rfl,hj3,hs3⟩;have hv3:W3.cell? ⟨B2,0,none⟩=some (.slice (some ⟨b,o,none⟩) (64*N) c):=ajD hs3 hv (fun h=>h.elim (fun e=>HB.out.1 e) hX2);have hn3:W3.cell? ⟨B3,0,none⟩=some (.int .i64 64):=ajD hs3 hn (fun h=>h.elim (fun e=>HB.out.2 e) hX3);clear hv hn hj hs3 hR hy;gi_wp2
   go_roundw
   case rel=>exact ⟨k+1,by omega,by congr 1,hv3,hn3,hj3⟩
   case measure=>simp[intOf];omega
  ·gi_wp2
   go_end0
   obtain rfl:k=N:=by omega
   exact ⟨⟨_,rfl⟩,hj⟩
end Go.Proofs.YthmhklmkgkfcpaaGreatDoor
