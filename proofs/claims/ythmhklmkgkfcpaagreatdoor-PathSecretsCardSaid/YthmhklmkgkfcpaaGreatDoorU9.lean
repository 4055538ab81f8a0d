import Derived.Test.YthmhklmkgkfcpaaGreatDoorU8
import Derived.Lib.AppendZerosOnto
set_option linter.unusedVariables false
set_option linter.unusedSimpArgs false
set_option maxHeartbeats 8000000
set_option maxRecDepth 100000
namespace Go.Proofs.YthmhklmkgkfcpaaGreatDoor
open Go.RowKit
theorem ain (l:List UInt8):(acy l).length=l.length+9+fill l.length:=by unfold acy;rw[List.length_append,acs];omega
theorem ajo (l:List UInt8):(acy l).length=64*((acy l).length / 64):=by
 have:=aje l.length;have h:(acy l).length=l.length+(pad l.length).length:=by unfold acy;rw[List.length_append]
 omega
theorem aa3 (s:S8)(l:List UInt8)(k:Nat):aaD s l (k+1)=comp keyL (aaD s l k) ((l.drop (64*k)).take 64):=by rw[aaD]
theorem ajp (n:Nat)(h:n≤2000):ajf (n:Int)=pad n:=by
 unfold ajf;rw[if_pos (by omega),Int.toNat_natCast]
theorem aoY (x:Int)(s:S8)(v:Value)(all:List UInt8)(at':Nat)(gk ck:Nat)(k:List UInt32)(w:World)(h:Rd w v all)(hl:at'+64≤all.length)(hk:Arr 247 w gk k)(hkl:k.length=64)(hx:x=at'):
  Calls Tryz.prog 226 #[.agg (aal s.list),v,.int .i64 x,.slice (some ⟨gk,0,none⟩) 64 ck] w fun e w'=>e=.returned (.agg (aal (comp k s ((all.drop at').take 64)).list))∧Kp w w':=by
 subst hx;exact aoU s v all at' gk ck k w h hl hk hkl
theorem akm (x:UInt32):∃ b0 b1 b2 b3:UInt8,ahN x=[b0,b1,b2,b3]∧IntKind.u8.wrap (arO x / 16777216)=(b0.toNat:Int)∧IntKind.u8.wrap (arO x / 65536 % 256)=(b1.toNat:Int)∧IntKind.u8.wrap (arO x / 256 % 256)=(b2.toNat:Int)∧IntKind.u8.wrap (arO x % 256)=(b3.toNat:Int):=by
 refine ⟨_,_,_,_,rfl,?_,?_,?_,?_⟩ <;> rw[IntKind.wrap_u8] <;> unfold arO <;> simp
theorem afh (v:Value)(l:List UInt8)(w:World)(h:Rd w v l)(hl:l.length≤2000):
  Calls Tryz.prog 185 #[v] w fun e w'=>(∃ v',e=.returned v'∧Ow 5 w' w.heap.size v' (aaI l))∧Kp w w':=by
 have U:=arN;obtain ⟨a,c,rfl,h1,h2⟩:=h.shape;unfold maxLen at h2;have hpl:=ain l;have hpw:=ajo l;have hfl:=afd l.length;obtain ⟨P,hP⟩:∃ P,acy l=P:=⟨_,rfl⟩;have hPP:l++pad l.length=P:=hP;have hdg:aaI l=(aaD abm P (P.length / 64)).bytes:=by unfold aaI;rw[hP]
 rw[hdg];rw[hP] at hpl hpw;obtain ⟨N,hN⟩:∃ N,P.length / 64=N:=⟨_,rfl⟩;rw[hN] at hpw ⊢;have HP:=Lib.hid hPP;have HL:=Lib.hid hpw;have hN2:N≤40:=by omega
 have hPL:P.length≤2600:=by omega
 have hpo:=ajp l.length hl;have HPO:=Lib.hid hpo;have hlb:=hl;clear hdg hP hPP hpw hpl hN hpo hfl;go_enter Tryz.func185,Tryz.ntmps185;go_wp2_with (first
  | (at_builtin;refine aae U rfl _ _ rfl w.heap.size _ _ rfl (Ow.lit w 5 w.heap.size 0 #[] [] (Nat.le_refl _) rfl (by decide) rfl) _ l rfl (h.kp ((Kp.refl w).alloc _)) ?c1 ?c2 ?_;rotate_right;intro v1 w1 ho1 hg1 _;have hk1:Kp w w1:=Kp.grown ((Kp.refl w).alloc _) hg1 (by intro k e;cases e;exact Nat.le_refl _);clear hg1)
  | (go_at_call 223;refine (alT _ _).mono ?_;rintro e w2 ⟨⟨vp,rfl,hrp⟩,hk2⟩;rw[HPO.out] at hrp)
  | (at_builtin;refine aae U rfl _ _ rfl w.heap.size _ _ rfl (ho1.kp hk2) _ (pad l.length) rfl hrp ?c3 ?c4 ?_;rotate_right;intro v2 w3 ho2 hg2 _;have hk3:Kp w w3:=Kp.grown (hk1.trans hk2) hg2 ho1.own_ge;rw[List.nil_append,HP.out] at ho2;clear hg2))
 case c1=>simp;omega
 case c2=>simp
 case c3=>have:=afd l.length;have:=acs l.length;simp;omega
 case c4=>exact (hk1.trans hk2).size
 refine (akj _).mono ?_;rintro e w4 ⟨⟨gk,rfl,hA,_⟩,hk4⟩;go_wp2_with fail;refine (ajl _).mono ?_;rintro e w5 ⟨rfl,hk5⟩;have hA5:=hA.kp hk5;have hr5:=(ho2.rd.kp hk4).kp hk5;have hkp5:Kp w w5:=(hk3.trans hk4).trans hk5;clear hA hk4 hk5 ho2 hk3 ho1 hk1 hk2 hrp;obtain ⟨a2,c2,rfl,hq1,hq2⟩:=hr5.shape;unfold maxLen at hq2;go_wp2_with (refine aaq (by kernel_rfl) rfl rfl (.tmp 5) (.tmp 17) rfl w5.heap.size (aaG 8) abm.list rfl rfl (Arr.new _ _ _ _ rfl) rfl rfl ?_;intro w6 hR6 hbut)
 have hk6:Kp w5 w6:=hbut.below ((Kp.refl w5).alloc _) (Nat.le_refl _);clear hbut;go_loopw[6] (fun i wr=>∃ k:Nat,k≤N∧i=.int .i64 (64*(k:Int))∧Arr 252 wr w5.heap.size (aaD abm P k).list∧Kp w5 wr) (fun i _=>(64*N - (intOf i).toNat))
 case atStart=>exact ⟨0,by omega,rfl,hR6,hk6⟩
 case round=>
  clear hR6 hk6;obtain ⟨k,hkN,rfl,hR,hk⟩:=hrel;by_cases hlt:k<N
  ·have hcond:64*(k:Int)<(P.length:Int):=by rw[HL.out];omega
   have HS:=Lib.hid (aoY (64*(k:Int)) (aaD abm P k) (.slice a2 P.length c2) P (64*k) gk 64 keyL wr (hr5.kp hk) (by rw[HL.out];omega) (hA5.kp hk) rfl (by simp));rw[← aa3] at HS;obtain ⟨s',hs'⟩:∃ s',aaD abm P (k+1)=s':=⟨_,rfl⟩;rw[hs'] at HS;have HS':=Lib.hid hs';clear hs';generalize aaD abm P k=s at *;go_wp2_with (refine aaF Tryz.underlying252 (by kernel_rfl) rfl (.tmp 5) rfl w5.heap.size s.list rfl hR rfl ?_)
   refine HS.out.mono ?_;rintro e w7 ⟨rfl,hk7⟩;have hR7:=hR.kp hk7;have hk8:Kp w5 w7:=hk.trans hk7;clear hR hk hk7;go_wp2_with (refine aaq (by kernel_rfl) rfl rfl (.tmp 5) (.tmp 28) rfl w5.heap.size s.list s'.list rfl rfl hR7 rfl rfl ?_;intro w8 hR8 hbut)
   go_roundw
   case rel=>exact ⟨k+1,by omega,by congr 1,by rw[HS'.out];exact hR8,hbut.below hk8 (Nat.le_refl _)⟩
   case measure=>simp[intOf];omega
  ·obtain rfl:k=N:=by omega
   have hcond:¬64*(k:Int)<(P.length:Int):=by rw[HL.out];omega
   obtain ⟨s,hsn⟩:∃ s,aaD abm P k=s:=⟨_,rfl⟩;rw[hsn] at hR;have HSN:=Lib.hid hsn;clear hsn;go_wp2_with fail;rename World=>wA
   go_loopw[7,8] (fun v i wq=>∃ j:Nat,j≤8∧i=.int .i64 j∧Ow 5 wq wA.heap.size v (adR s j)∧Kp wA wq) (fun _ i _=>(8 - intOf i).toNat)
   case atStart=>exact ⟨0,by omega,rfl,Ow.nil _ _ _,Kp.refl _⟩
   case round=>
    obtain ⟨j,hj,rfl,hown,hkq⟩:=hrel;by_cases hlt2:j<8
    ·have cb:=(hR.kp hkq).cell j hlt2
     have hs:=adS s j hlt2;have hlen:=ab7 s j (by omega);generalize s.list.getD j 0=x at *;obtain ⟨b0,b1,b2,b3,h4,v0,v1',v2',v3⟩:=akm x;rw[h4] at hs;generalize adR s j=L at *;have HS:=Lib.hid hs;have HLn:=Lib.hid hlen;have q:(j:Int)<8:=by omega
     clear hs hlen h4 hcond;go_wp2_with fail;have u0:=alg x;have u1:=u_lt x;have w0:IntKind.u32.wrap ((arO x).tdiv 16777216)=arO x / 16777216:=by rw[Int.tdiv_eq_ediv_of_nonneg u0];exact aa6 _ (by omega) (by omega)
     have w1':IntKind.u32.wrap ((arO x).tdiv 65536)=arO x / 65536:=by rw[Int.tdiv_eq_ediv_of_nonneg u0];exact aa6 _ (by omega) (by omega)
     have w2':IntKind.u32.wrap ((arO x).tdiv 256)=arO x / 256:=by rw[Int.tdiv_eq_ediv_of_nonneg u0];exact aa6 _ (by omega) (by omega)
     have m1:(arO x / 65536).tmod 256=arO x / 65536 % 256:=Int.tmod_eq_emod_of_nonneg (by omega);have m2:(arO x / 256).tmod 256=arO x / 256 % 256:=Int.tmod_eq_emod_of_nonneg (by omega);have m3:(arO x).tmod 256=arO x % 256:=Int.tmod_eq_emod_of_nonneg u0;clear u0 u1;have hblt:w5.heap.size<wr.heap.size:=World.block_lt_of_cell? wr _ cb;go_region_held3 (fun W=>W.cell? ⟨w5.heap.size,j,none⟩=some (.int .u32 (arO x)))
      (first
       | exact cb
       | exact (((Kp.refl wr).alloc _).drew).cell cb
       | exact (((Kp.refl wr).drew).alloc _).cell cb
       | exact (Kp.grown (((Kp.refl wr).alloc _).drew) hg9 (fun k e=>absurd e (by simp))).cell cb
       | (exact cb9)
       | trace_state)
      (first
       | (refine ahi U rfl (.tmp 33) (.tmp 56) rfl wA.heap.size _ _ rfl (hown.kp ((Kp.refl _).alloc _).drew) _ 4 4 [b0,b1,b2,b3] rfl ((Ow.lit wr 5 0 4 _ _ (Nat.zero_le _) rfl (by decide) rfl).kp (Kp.refl _).drew).rd (by rw[HLn.out];simp;omega) (by have:=hkq.size;simp;omega) ?_;intro v' w9 ho9 hg9;have cb9:w9.cell? ⟨w5.heap.size,j,none⟩=some (.int .u32 (arO x)):=(Below.cell (Kp.grown (hkq.alloc _).drew hg9 hown.own_ge) (p:=⟨w5.heap.size,j,none⟩) (Arr.lt hR)).trans ((hR.cell j hlt2).trans (by have:=(hR.kp hkq).cell j hlt2;rw[cb] at this;exact this.symm))))
     all_goals
      go_wp2_with fail;go_roundw
      case rel=>exact ⟨j+1,by omega,by go_num,by rw[HS.out];exact ho9,Kp.grown (hkq.alloc _).drew hg9 hown.own_ge⟩
      case measure=>simp[intOf];omega
    ·obtain rfl:j=8:=by omega
     go_wp2_with fail;go_ret;exact ⟨⟨_,rfl,by rw[HSN.out];exact hown.mono (hkp5.trans hk).size⟩,(hkp5.trans hk).trans hkq⟩
theorem aeH (s:S8)(l m:List UInt8):∀ k,64*k≤l.length→aaD s (l++m) k=aaD s l k
 | 0,_=>rfl
 | k+1,h=>by
  rw[aa3,aa3,aeH s l m k (by omega),List.drop_append_of_le_length (by omega),List.take_append_of_le_length (by simp;omega)]
theorem ahS (s:S8)(P:List UInt8)(a:Nat):∀ k,aaD (aaD s P a) (P.drop (64*a)) k=aaD s P (a+k)
 | 0=>rfl
 | k+1=>by
  rw[aa3,ahS s P a k,List.drop_drop,show a+(k+1)=(a+k)+1 by omega,aa3,show 64*a+64*k=64*(a+k) by omega]
theorem ajq (l:List UInt8)(N M:Nat)(hN:N=l.length / 64)(hM:64*M=(l.drop (64*N)++pad l.length).length):
  aaI l=(aaD (aaD abm l N) (l.drop (64*N)++pad l.length) M).bytes:=by
 have h1:(acy l).length=64*(N+M):=by
  unfold acy;rw[List.length_append] at hM ⊢;rw[List.length_drop] at hM;omega
 have h2:(acy l).length / 64=N+M:=by omega
 have h3:l.drop (64*N)++pad l.length=(acy l).drop (64*N):=by
  unfold acy;rw[List.drop_append_of_le_length (by omega)]
 unfold aaI;rw[h2,h3,← ahS];have h4:aaD abm (acy l) N=aaD abm l N:=aeH _ _ _ _ (by omega);rw[h4]
theorem alY (l:List UInt8)(N:Nat)(hN:N=l.length / 64):64*((l.drop (64*N)++pad l.length).length / 64)=(l.drop (64*N)++pad l.length).length:=by
 have:=aje l.length;rw[List.length_append,List.length_drop];omega
theorem afi {P:Program}{ops:Array Oper}{rest:List Oper}{o:Oper}{a:Act}{w w':World}{Q:Exit→Act→World→Prop}(hgd:o.guard=none)(s x:Operand)(t tn:TypeId)
  (ho:o.op=.call { callee:=.builtin .append,args:=#[s,x],argTypes:=#[t,tn] }) (vs vx v:Value) (hs:a.eval s=vs) (hx:a.eval x=vx)
  (hrun:(Builtin.append_ #[t,tn] o.type #[vs,vx]).run P w=.ok v w') (h:wpList P ops Q rest (a.put o.dst v) w'):wpList P ops Q (o :: rest) a w:=by
 refine wpList_plain hgd fun K hK=>?_
 unfold Oper.wp;simp[execOp,ho,resolve,invoke,builtin,hs,hx,hrun,Result.andThen];exact hK _ _ h
theorem alm (n:Nat)(w:World)(h0:0<n)(h1:n≤1000000):
  Calls Tryz.prog 196 #[.slice none 0 0,.int .i64 n] w fun e w'=>(∃ v,e=.returned v∧Ow 5 w' w.heap.size v [])∧Kp w w':=by
 obtain ⟨i0,hi,hz0,hz1,hz2⟩:=info_parts Tryz.info5;have hold:(Builtin.firstCells i0.size 0 (.slice none 0 0)).run Tryz.prog w.drew=.ok ([]:List Value).toArray w.drew:=rfl;have hrz:∀ ty,(Builtin.append_ #[24,3] ty #[.slice none 0 0,.int .i64 (n:Int)]).run Tryz.prog w =
   .ok (.slice (some ⟨w.heap.size,0,none⟩) n (grownCap w n 0 5)) (w.drew.alloc (.cells (#[]++Builtin.zeroCells (Value.int .u8 0).cells n++Builtin.zeroCells (Value.int .u8 0).cells (grownCap w n 0 5 - n)) 5)):=fun ty=>by
  have h:=Lib.run_append_grow_zeros w 24 3 ty 5 i0 (.int .u8 0) .i64 .i64 Tryz.underlying24 Tryz.underlying3 hi hz0 none 0 0 [] hold n h0 (by omega) (by omega) (by omega) (by rw[hz2];omega)
   (by rw[hz2];have:=growslice_fits (need:=0+n) (old:=0) (bytes:=1) (by omega) (by omega);exact this)
  simpa using h
 have hge:n≤grownCap w n 0 5:=grownCap_ge w _ _ _;have hle:=grownCap_le_maxLen w n 0 5 (by unfold maxLen;omega);generalize grownCap w n 0 5=G at *;unfold maxLen at hle;have hn0:¬(n:Int)<0:=by omega
 have hn1:0<(n:Int):=by omega
 clear hold;go_enter Tryz.func196,Tryz.ntmps196;have hcs:(#[]++Builtin.zeroCells (Value.int .u8 0).cells n++Builtin.zeroCells (Value.int .u8 0).cells (G - n):Array Value).size=G:=by
  simp[size_zeroCells,Value.cells];omega
 generalize (#[]++Builtin.zeroCells (Value.int .u8 0).cells n++Builtin.zeroCells (Value.int .u8 0).cells (G - n):Array Value)=cs at *;have HR:=Lib.hid hrz;have HC:=Lib.hid hcs;clear hrz hcs hz0 hz1 hz2 hi;go_wp2_with (at_builtin;refine afi rfl (.tmp 20) (.tmp 21) _ _ rfl _ _ _ rfl rfl (HR.out _) ?_)
 go_ret;refine ⟨⟨_,rfl,?_⟩,(Kp.refl w).drew.alloc _⟩;refine ⟨rfl,.inr ⟨w.heap.size,G,cs,rfl,Nat.le_refl _,?_,Nat.zero_le _,by unfold maxLen;exact hle,by rw[HC.out];simp,by simp[Lib.byteCells]⟩⟩;exact heap_alloc_new w.drew _
theorem ahT (g c:Nat)(v1 v2:Value)(l1 l2:List UInt8)(w:World)(hc1:w.cell? ⟨g,0,none⟩=some v1)(hc2:w.cell? ⟨g,1,none⟩=some v2)(h1:Rd w v1 l1)(h2:Rd w v2 l2)(hp:0<l1.length+l2.length)(hb:l1.length+l2.length≤1000000):
  Calls Tryz.prog 168 #[.slice (some ⟨g,0,none⟩) 2 c] w fun e w'=>(∃ v,e=.returned v∧Ow 5 w' w.heap.size v (l1++l2))∧Kp w w':=by
 have U:=arN;obtain ⟨a1,e1,rfl,p1,q1⟩:=h1.shape;obtain ⟨a2,e2,rfl,p2,q2⟩:=h2.shape;unfold maxLen at q1 q2;go_enter Tryz.func168,Tryz.ntmps168;go_wp2_with fail;go_loopw[3,11] (fun s i wr=>((s=.int .i64 0∧i=.int .i64 0)∨(s=.int .i64 (l1.length:Int)∧i=.int .i64 1)∨(s=.int .i64 ((l1.length:Int)+(l2.length:Int))∧i=.int .i64 2))∧wr=w) (fun _ i _=>2 - (intOf i).toNat)
 case atStart=>exact ⟨.inl ⟨rfl,rfl⟩,rfl⟩
 case round=>
  obtain ⟨hor,rfl⟩:=hrel;rcases hor with ⟨rfl,rfl⟩ | ⟨rfl,rfl⟩ | ⟨rfl,rfl⟩
  ·go_wp2_with fail
   go_roundw
   case rel=>exact ⟨.inr (.inl ⟨by simp,rfl⟩),trivial⟩
   case measure=>simp[intOf]
  ·go_wp2_with fail
   go_roundw
   case rel=>exact ⟨.inr (.inr ⟨by simp,rfl⟩),trivial⟩
   case measure=>simp[intOf]
  ·rename World=>w0
   have hsum:((l1.length+l2.length:Nat):Int)=(l1.length:Int)+(l2.length:Int):=by simp
   have HG:=Lib.hid (alm (l1.length+l2.length) w0 hp hb);rw[hsum] at HG;clear hsum;go_wp2_with fail;refine HG.out.mono ?_;rintro e w1 ⟨⟨v,rfl,ho⟩,hk1⟩;go_wp2_with fail;go_loopw[6,27] (fun arO i wq=>((Ow 5 wq w0.heap.size arO []∧i=.int .i64 0)∨(Ow 5 wq w0.heap.size arO l1∧i=.int .i64 1)∨(Ow 5 wq w0.heap.size arO (l1++l2)∧i=.int .i64 2))∧Kp w0 wq) (fun _ i _=>2 - (intOf i).toNat)
   case atStart=>exact ⟨.inl ⟨ho,rfl⟩,hk1⟩
   case round=>
    clear ho hk1;obtain ⟨hor,hk⟩:=hrel;have hc1':=hk.cell hc1;have hc2':=hk.cell hc2;have hr1:=h1.kp hk;have hr2:=h2.kp hk;have hsz:=hk.size;rcases hor with ⟨ho,rfl⟩ | ⟨ho,rfl⟩ | ⟨ho,rfl⟩
    ·go_wp2_with (at_builtin;refine aae U rfl _ _ rfl w0.heap.size _ _ rfl ho _ l1 rfl hr1 ?c1 hsz ?_;rotate_right;intro v' w2 ho2 hg2 _)
     case c1=>simp;omega
     rw[List.nil_append] at ho2;go_roundw
     case rel=>exact ⟨.inr (.inl ⟨ho2,rfl⟩),Kp.grown hk hg2 ho.own_ge⟩
     case measure=>simp[intOf]
    ·go_wp2_with (at_builtin;refine aae U rfl _ _ rfl w0.heap.size _ _ rfl ho _ l2 rfl hr2 ?c1 hsz ?_;rotate_right;intro v' w2 ho2 hg2 _)
     case c1=>omega
     go_roundw
     case rel=>exact ⟨.inr (.inr ⟨ho2,rfl⟩),Kp.grown hk hg2 ho.own_ge⟩
     case measure=>simp[intOf]
    ·go_wp2_with fail
     go_ret;exact ⟨⟨_,rfl,ho⟩,hk⟩
theorem aab.tidy {t:List Nod}{K:Nat}(h:aab t K)(hs:adN t 40):aaZ t K:=by
 have hk:∀ x,(ats t x).kind=2→x % 2=1:=fun x hx=>by
  rcases h.okA x with h1 | ⟨h1,_⟩
  ·rw[h1] at hx;cases hx
  ·omega
 refine ⟨h.le,h.len,fun x=>?_,hk⟩;by_cases hx:x<t.length
 ·rcases h.okA x with h1 | ⟨h1,⟨h2,h3,h4⟩,h5,h6,h7⟩
  ·rw[h1];exact adj.blank
  ·have hm:ats t x∈t:=by rw[aep hx];exact List.getElem_mem hx
   obtain ⟨s1,s2,s3⟩:=hs.2 _ hm;refine ⟨by omega,⟨h2,h3⟩,s1,s2,by omega,fun i hi=>?_⟩;obtain ⟨j,q,rfl,hj,hq⟩:=ahh K x (by rw[← h.len];exact hx);obtain ⟨_,y1,y2⟩:=aa4 h.le hj hq;obtain ⟨k,rfl,hkq,hk1⟩:=h.unAt y1 y2 i hi;have hk2:2*k<t.length:=by
    refine Nat.lt_of_not_le fun hle=>?_
    rw[acJ hle] at hk1;cases hk1
   have hl:=h.len2;have hp:=acc h.le;omega
 ·rw[acJ (by omega)];exact adj.blank
theorem adj.hashed {n:Nod}(h:adj n){b:List UInt8}(hb:b.length≤40):adj (acX n b):=⟨h.kind,h.name,h.pub,hb,h.unl,h.un⟩
theorem aaZ.hashed {t:List Nod}{K:Nat}(h:aaZ t K)(x:Nat){b:List UInt8}(hb:b.length≤40)(hx:x<t.length):aaZ (t.set x (acX (ats t x) b)) K:=by
 refine ⟨h.le,by rw[List.length_set];exact h.len,fun y=>?_,fun y hy=>?_⟩
 ·rw[abk _ _ _ _ hx]
  split
  ·exact (h.node x).hashed hb
  ·exact h.node y
 ·rw[abk _ _ _ _ hx] at hy
  split at hy
  ·next e=>subst e;exact h.par _ hy
  ·exact h.par y hy
theorem alt {t arO:List Nod}(hk:∀ i,(ats arO i).kind=(ats t i).kind){a b:Int}{l:List Int}(h:unP t a b l):unP arO a b l:=
 ⟨h.1,fun i hi=>by rw[hk];exact h.2 i hi⟩
theorem aab.hashed {t:List Nod}{K:Nat}(h:aab t K)(x:Nat){b:List UInt8}(hb:b.length=0∨b.length=32)(hx:x<t.length)(hne:(ats t x).kind≠0):aab (t.set x (acX (ats t x) b)) K:=by
 have hA:=abk t x (acX (ats t x) b);have hk:∀ y,(ats (t.set x (acX (ats t x) b)) y).kind=(ats t y).kind:=fun y=>by
  rw[hA y hx];split
  ·next e=>subst e;rfl
  ·rfl
 have hn:∀ y,(ats (t.set x (acX (ats t x) b)) y).name=(ats t y).name:=fun y=>by
  rw[hA y hx];split
  ·next e=>subst e;rfl
  ·rfl
 refine ⟨h.le,by rw[List.length_set];exact h.len,fun y hy=>?_,fun y z hyz hz h1 h2=>?_,?_⟩
 ·rw[List.length_set] at hy
  by_cases e:y=x
  ·subst e
   rcases h.okA y with h1 | ⟨h1,h2,h3,h4,h5⟩
   ·rw[h1] at hne;exact absurd rfl hne
   ·refine .inr ?_
    rw[hA y hx,if_pos rfl];exact ⟨h1,h2,hb,h4,fun e2=>⟨(h5 e2).1,alt hk (h5 e2).2⟩⟩
  ·have e2:ats (t.set x (acX (ats t x) b)) y=ats t y:=by rw[hA y hx,if_neg e]
   rcases h.okA y with h1 | ⟨h1,h2,h3,h4,h5⟩
   ·exact .inl (e2.trans h1)
   ·refine .inr ?_
    rw[e2];exact ⟨h1,h2,h3,h4,fun e3=>⟨(h5 e3).1,alt hk (h5 e3).2⟩⟩
 ·rw[hk] at h1 h2
  rw[hn,hn];rw[List.length_set] at hz;exact h.one y z hyz hz h1 h2
 ·obtain ⟨y,hy,h1⟩:=h.used
  exact ⟨y,by rw[List.length_set];exact hy,by rw[hk];exact h1⟩
theorem aqC (t:List Nod)(x side:Int):(aboV t x side).length=0∨(aboV t x side).length=32:=by
 unfold aboV;split
 ·exact .inr (ahR _)
 ·exact .inl rfl
theorem ama {t:List Nod}{K i:Nat}{s:List Nod × List UInt8}{x:Nat}(hx:x<t.length)(h1:aaZ s.1 K)(h2:s.1.length=t.length)(h3:s.2.length=0∨s.2.length=32):
  aaZ (layS i s x).1 K∧(layS i s x).1.length=t.length∧((layS i s x).2.length=0∨(layS i s x).2.length=32)∧(aab s.1 K→aab (layS i s x).1 K):=by
 unfold layS;split
 ·next hk=>
  refine ⟨h1.hashed x (by omega) (by omega),by rw[List.length_set];exact h2,aqC _ _ _,fun hr=>hr.hashed x h3 (by omega) (by rw[hk];decide)⟩
 ·exact ⟨h1,h2,h3,fun h=>h⟩
theorem afq {t:List Nod}{K i:Nat}:∀ (l:List Nat) (s:List Nod × List UInt8),(∀ x∈l,x<t.length)→aaZ s.1 K→s.1.length=t.length→(s.2.length=0∨s.2.length=32) →
  aaZ (l.foldl (layS i) s).1 K∧(l.foldl (layS i) s).1.length=t.length∧((l.foldl (layS i) s).2.length=0∨(l.foldl (layS i) s).2.length=32)∧(aab s.1 K→aab (l.foldl (layS i) s).1 K)
 | [],s,_,h1,h2,h3=>⟨h1,h2,h3,fun h=>h⟩
 | x :: l,s,hl,h1,h2,h3=>by
  obtain ⟨g1,g2,g3,g4⟩:=ama (i:=i) (hl x (by simp)) h1 h2 h3
  obtain ⟨f1,f2,f3,f4⟩:=afq (i:=i) l (layS i s x) (fun y hy=>hl y (by simp[hy])) g1 g2 g3
  exact ⟨f1,f2,f3,fun h=>f4 (g4 h)⟩
end Go.Proofs.YthmhklmkgkfcpaaGreatDoor
