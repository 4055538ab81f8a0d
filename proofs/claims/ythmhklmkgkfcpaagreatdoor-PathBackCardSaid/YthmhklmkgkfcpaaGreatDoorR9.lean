import Derived.Test.YthmhklmkgkfcpaaGreatDoorR1
import Derived.Test.YthmhklmkgkfcpaaGreatDoorR8
import Derived.Lib.AppendZerosOnto
set_option linter.unusedVariables false
set_option linter.unusedSimpArgs false
set_option maxHeartbeats 8000000
set_option maxRecDepth 100000
namespace Go.Proofs.YthmhklmkgkfcpaaGreatDoor
open Go.RowKit Go.ChangeShapes Go.WideShapes Go.Deep
def Vals (w:World)(v:Value)(us:List Value):Prop:=
 ∃ a c,v=.slice a us.length c∧us.length≤c∧c≤maxLen∧(a=none→c=0) ∧
  ∀ x,a=some x→∀ i,(h:i<us.length)→w.cell? (x.add i)=some (us[i]'h)
theorem Vals.kp {w w':World}{v:Value}{us:List Value}(h:Vals w v us)(k:Kp w w'):Vals w' v us:=by
 obtain ⟨a,c,rfl,h1,h2,h3,h4⟩:=h;exact ⟨a,c,rfl,h1,h2,h3,fun x hx i hi=>k.cell (h4 x hx i hi)⟩
theorem Vals.shape {w:World}{v:Value}{us:List Value}(h:Vals w v us):∃ a c,v=.slice a us.length c∧us.length≤c∧c≤maxLen:=by
 obtain ⟨a,c,e,h1,h2,_⟩:=h;exact ⟨a,c,e,h1,h2⟩
theorem Vals.nil (w:World):Vals w (.slice none 0 0) []:=⟨none,0,rfl,Nat.le_refl _,Nat.zero_le _,fun _=>rfl,fun x hx=>by cases hx⟩
theorem Vals.at {w:World}{a:Option Addr}{n c:Nat}{us:List Value}(h:Vals w (.slice a n c) us)(k:Nat)(hk:k<n):
  ∃ b off,a=some ⟨b,off,none⟩∧b<w.heap.size∧∀ i,i<n→w.cell? ⟨b,off+i,none⟩=some (us.getD i (.bool false)):=by
 obtain ⟨a',c',e,h1,h2,h3,h4⟩:=h
 simp only[Value.slice.injEq] at e
 obtain ⟨rfl,rfl,rfl⟩:=e
 cases a with
 | none=>have:=h3 rfl;omega
 | some x=>
  obtain ⟨b,off,spot⟩:=x
  have h0:=h4 _ rfl 0 (by omega)
  have hs:spot=none:=by simpa [Addr.add] using World.cell?_spot h0
  subst hs
  refine ⟨b,off,rfl,World.block_lt_of_cell? w _ h0,fun i hi=>?_⟩
  have:=h4 _ rfl i hi
  rw[List.getD_eq_getElem?_getD,List.getElem?_eq_getElem hi,Option.getD_some,← this]
  congr 1
  unfold Addr.add
  split <;> simp_all
theorem Vals.own {w:World}{B:Nat}{e:TypeId}{v:Value}{us:List Value}(h:w.ownsRow B e 1 v us.length us):Vals w v us:=by
 rcases h.2 with ⟨rfl,h0⟩ | ⟨g,cap,cur,rfl,hb,hg,hn,hm,hs,ht⟩
 ·exact ⟨none,0,by rw[h0],by omega,Nat.zero_le _,fun _=>rfl,fun x hx=>by cases hx⟩
 ·refine ⟨_,cap,rfl,hn,hm,fun h=>(by cases h),fun x hx i hi=>?_⟩
  cases hx;have e:(⟨g,0,none⟩:Addr).add i=⟨g,i,none⟩:=by unfold Addr.add;split <;> simp_all
  rw[e,cell_of_row w g i _ _ _ hg];have hx:us[i]?=some us[i]:=List.getElem?_eq_getElem hi;rw[← hx,← ht,List.getElem?_take_of_lt (by omega)];simp
def RL (w:World)(v:Value)(ls:List (List UInt8)):Prop:=∃ us,Vals w v us∧us.length=ls.length∧∀ i,i<ls.length→Rd w (us.getD i (.bool false)) (ls.getD i [])
theorem RL.kp {w w':World}{v:Value}{ls:List (List UInt8)}(h:RL w v ls)(k:Kp w w'):RL w' v ls:=by
 obtain ⟨us,h1,h2,h3⟩:=h;exact ⟨us,h1.kp k,h2,fun i hi=>(h3 i hi).kp k⟩
theorem RL.shape {w:World}{v:Value}{ls:List (List UInt8)}(h:RL w v ls):∃ a c,v=.slice a ls.length c∧ls.length≤c∧c≤maxLen:=by
 obtain ⟨us,h1,h2,h3⟩:=h;rw[← h2];exact h1.shape
theorem RL.at {w:World}{a:Option Addr}{n c:Nat}{ls:List (List UInt8)}(h:RL w (.slice a n c) ls)(k:Nat)(hk:k<n):
  ∃ b off,a=some ⟨b,off,none⟩∧b<w.heap.size∧∀ i,i<n→∃ u,w.cell? ⟨b,off+i,none⟩=some u∧Rd w u (ls.getD i []):=by
 obtain ⟨us,h1,h2,h3⟩:=h;obtain ⟨b,off,ha,hb,hc⟩:=h1.at k hk;have hn:n=us.length:=by
  obtain ⟨a',c',e,_⟩:=h1.shape;simp only[Value.slice.injEq] at e;exact e.2.1
 exact ⟨b,off,ha,hb,fun i hi=>⟨_,hc i hi,h3 i (by omega)⟩⟩
theorem RL.cons {w:World}{B:Nat}{e:TypeId}{v u:Value}{l:List UInt8}{us:List Value}{ls:List (List UInt8)}(h:w.ownsRow B e 1 v (u :: us).length (u :: us))(hu:Rd w u l)(hl:us.length=ls.length)
  (hr:∀ i,i<ls.length→Rd w (us.getD i (.bool false)) (ls.getD i [])):RL w v (l :: ls):=by
 refine ⟨u :: us,Vals.own h,by simp[hl],fun i hi=>?_⟩
 cases i with
 | zero=>simpa using hu
 | succ i=>simpa using hr i (by simpa using hi)
section
variable {H : Type} {enc : TypeId × Value → H} {P : Program} {w : World} {base : Nat} {spare : Nat → Bool} {held : Bool}
end
end Go.Proofs.YthmhklmkgkfcpaaGreatDoor
namespace Go.Proofs.YthmhklmkgkfcpaaGreatDoor
open Go.RowKit
theorem aiB (l:List UInt8):(acF l).length=l.length+9+fill l.length:=by unfold acF;rw[List.length_append,acy];omega
theorem ajD (l:List UInt8):(acF l).length=64*((acF l).length / 64):=by
 have:=ajt l.length;have h:(acF l).length=l.length+(pad l.length).length:=by unfold acF;rw[List.length_append]
 omega
theorem aa7 (s:S8)(l:List UInt8)(k:Nat):aaB s l (k+1)=comp keyL (aaB s l k) ((l.drop (64*k)).take 64):=by rw[aaB]
theorem ajE (n:Nat)(h:n≤2000):aju (n:Int)=pad n:=by
 unfold aju;rw[if_pos (by omega),Int.toNat_natCast]
theorem apf (x:Int)(s:S8)(v:Value)(all:List UInt8)(at':Nat)(gk ck:Nat)(k:List UInt32)(w:World)(h:Rd w v all)(hl:at'+64≤all.length)(hk:Arr 247 w gk k)(hkl:k.length=64)(hx:x=at'):
  Calls Tryz.prog 226 #[.agg (aal s.list),v,.int .i64 x,.slice (some ⟨gk,0,none⟩) 64 ck] w fun e w'=>e=.returned (.agg (aal (comp k s ((all.drop at').take 64)).list))∧Kp w w':=by
 subst hx;exact apb s v all at' gk ck k w h hl hk hkl
theorem akB (x:UInt32):∃ b0 b1 b2 b3:UInt8,ahV x=[b0,b1,b2,b3]∧IntKind.u8.wrap (ar6 x / 16777216)=(b0.toNat:Int)∧IntKind.u8.wrap (ar6 x / 65536 % 256)=(b1.toNat:Int)∧IntKind.u8.wrap (ar6 x / 256 % 256)=(b2.toNat:Int)∧IntKind.u8.wrap (ar6 x % 256)=(b3.toNat:Int):=by
 refine ⟨_,_,_,_,rfl,?_,?_,?_,?_⟩ <;> rw[IntKind.wrap_u8] <;> unfold ar6 <;> simp
theorem afq (v:Value)(l:List UInt8)(w:World)(h:Rd w v l)(hl:l.length≤2000):
  Calls Tryz.prog 185 #[v] w fun e w'=>(∃ v',e=.returned v'∧Ow 5 w' w.heap.size v' (aaK l))∧Kp w w':=by
 have U:=ar5;obtain ⟨a,c,rfl,h1,h2⟩:=h.shape;unfold maxLen at h2;have hpl:=aiB l;have hpw:=ajD l;have hfl:=afm l.length;obtain ⟨P,hP⟩:∃ P,acF l=P:=⟨_,rfl⟩;have hPP:l++pad l.length=P:=hP;have hdg:aaK l=(aaB abp P (P.length / 64)).bytes:=by unfold aaK;rw[hP]
 rw[hdg];rw[hP] at hpl hpw;obtain ⟨N,hN⟩:∃ N,P.length / 64=N:=⟨_,rfl⟩;rw[hN] at hpw ⊢;have HP:=Lib.hid hPP;have HL:=Lib.hid hpw;have hN2:N≤40:=by omega
 have hPL:P.length≤2600:=by omega
 have hpo:=ajE l.length hl;have HPO:=Lib.hid hpo;have hlb:=hl;clear hdg hP hPP hpw hpl hN hpo hfl;go_enter Tryz.func185,Tryz.ntmps185;go_wp2_with (first
  | (at_builtin;refine aae U rfl _ _ rfl w.heap.size _ _ rfl (Ow.lit w 5 w.heap.size 0 #[] [] (Nat.le_refl _) rfl (by decide) rfl) _ l rfl (h.kp ((Kp.refl w).alloc _)) ?c1 ?c2 ?_;rotate_right;intro v1 w1 ho1 hg1 _;have hk1:Kp w w1:=Kp.grown ((Kp.refl w).alloc _) hg1 (by intro k e;cases e;exact Nat.le_refl _);clear hg1)
  | (go_at_call 223;refine (al6 _ _).mono ?_;rintro e w2 ⟨⟨vp,rfl,hrp⟩,hk2⟩;rw[HPO.out] at hrp)
  | (at_builtin;refine aae U rfl _ _ rfl w.heap.size _ _ rfl (ho1.kp hk2) _ (pad l.length) rfl hrp ?c3 ?c4 ?_;rotate_right;intro v2 w3 ho2 hg2 _;have hk3:Kp w w3:=Kp.grown (hk1.trans hk2) hg2 ho1.own_ge;rw[List.nil_append,HP.out] at ho2;clear hg2))
 case c1=>simp;omega
 case c2=>simp
 case c3=>have:=afm l.length;have:=acy l.length;simp;omega
 case c4=>exact (hk1.trans hk2).size
 refine (aky _).mono ?_;rintro e w4 ⟨⟨gk,rfl,hA,_⟩,hk4⟩;go_wp2_with fail;refine (ajA _).mono ?_;rintro e w5 ⟨rfl,hk5⟩;have hA5:=hA.kp hk5;have hr5:=(ho2.rd.kp hk4).kp hk5;have hkp5:Kp w w5:=(hk3.trans hk4).trans hk5;clear hA hk4 hk5 ho2 hk3 ho1 hk1 hk2 hrp;obtain ⟨a2,c2,rfl,hq1,hq2⟩:=hr5.shape;unfold maxLen at hq2;go_wp2_with (refine aas (by kernel_rfl) rfl rfl (.tmp 5) (.tmp 17) rfl w5.heap.size (aaH 8) abp.list rfl rfl (Arr.new _ _ _ _ rfl) rfl rfl ?_;intro w6 hR6 hbut)
 have hk6:Kp w5 w6:=hbut.below ((Kp.refl w5).alloc _) (Nat.le_refl _);clear hbut;go_loopw[6] (fun i wr=>∃ k:Nat,k≤N∧i=.int .i64 (64*(k:Int))∧Arr 252 wr w5.heap.size (aaB abp P k).list∧Kp w5 wr) (fun i _=>(64*N - (intOf i).toNat))
 case atStart=>exact ⟨0,by omega,rfl,hR6,hk6⟩
 case round=>
  clear hR6 hk6;obtain ⟨k,hkN,rfl,hR,hk⟩:=hrel;by_cases hlt:k<N
  ·have hcond:64*(k:Int)<(P.length:Int):=by rw[HL.out];omega
   have HS:=Lib.hid (apf (64*(k:Int)) (aaB abp P k) (.slice a2 P.length c2) P (64*k) gk 64 keyL wr (hr5.kp hk) (by rw[HL.out];omega) (hA5.kp hk) rfl (by simp));rw[← aa7] at HS;obtain ⟨s',hs'⟩:∃ s',aaB abp P (k+1)=s':=⟨_,rfl⟩;rw[hs'] at HS;have HS':=Lib.hid hs';clear hs';generalize aaB abp P k=s at *;go_wp2_with (refine aaF Tryz.underlying252 (by kernel_rfl) rfl (.tmp 5) rfl w5.heap.size s.list rfl hR rfl ?_)
   refine HS.out.mono ?_;rintro e w7 ⟨rfl,hk7⟩;have hR7:=hR.kp hk7;have hk8:Kp w5 w7:=hk.trans hk7;clear hR hk hk7;go_wp2_with (refine aas (by kernel_rfl) rfl rfl (.tmp 5) (.tmp 28) rfl w5.heap.size s.list s'.list rfl rfl hR7 rfl rfl ?_;intro w8 hR8 hbut)
   go_roundw
   case rel=>exact ⟨k+1,by omega,by congr 1,by rw[HS'.out];exact hR8,hbut.below hk8 (Nat.le_refl _)⟩
   case measure=>simp[intOf];omega
  ·obtain rfl:k=N:=by omega
   have hcond:¬64*(k:Int)<(P.length:Int):=by rw[HL.out];omega
   obtain ⟨s,hsn⟩:∃ s,aaB abp P k=s:=⟨_,rfl⟩;rw[hsn] at hR;have HSN:=Lib.hid hsn;clear hsn;go_wp2_with fail;rename World=>wA
   go_loopw[7,8] (fun v i wq=>∃ j:Nat,j≤8∧i=.int .i64 j∧Ow 5 wq wA.heap.size v (adU s j)∧Kp wA wq) (fun _ i _=>(8 - intOf i).toNat)
   case atStart=>exact ⟨0,by omega,rfl,Ow.nil _ _ _,Kp.refl _⟩
   case round=>
    obtain ⟨j,hj,rfl,hown,hkq⟩:=hrel;by_cases hlt2:j<8
    ·have cb:=(hR.kp hkq).cell j hlt2
     have hs:=adV s j hlt2;have hlen:=ab9 s j (by omega);generalize s.list.getD j 0=x at *;obtain ⟨b0,b1,b2,b3,h4,v0,v1',v2',v3⟩:=akB x;rw[h4] at hs;generalize adU s j=L at *;have HS:=Lib.hid hs;have HLn:=Lib.hid hlen;have q:(j:Int)<8:=by omega
     clear hs hlen h4 hcond;go_wp2_with fail;have u0:=alv x;have u1:=u_lt x;have w0:IntKind.u32.wrap ((ar6 x).tdiv 16777216)=ar6 x / 16777216:=by rw[Int.tdiv_eq_ediv_of_nonneg u0];exact aa9 _ (by omega) (by omega)
     have w1':IntKind.u32.wrap ((ar6 x).tdiv 65536)=ar6 x / 65536:=by rw[Int.tdiv_eq_ediv_of_nonneg u0];exact aa9 _ (by omega) (by omega)
     have w2':IntKind.u32.wrap ((ar6 x).tdiv 256)=ar6 x / 256:=by rw[Int.tdiv_eq_ediv_of_nonneg u0];exact aa9 _ (by omega) (by omega)
     have m1:(ar6 x / 65536).tmod 256=ar6 x / 65536 % 256:=Int.tmod_eq_emod_of_nonneg (by omega);have m2:(ar6 x / 256).tmod 256=ar6 x / 256 % 256:=Int.tmod_eq_emod_of_nonneg (by omega);have m3:(ar6 x).tmod 256=ar6 x % 256:=Int.tmod_eq_emod_of_nonneg u0;clear u0 u1;have hblt:w5.heap.size<wr.heap.size:=World.block_lt_of_cell? wr _ cb;go_region_held3 (fun W=>W.cell? ⟨w5.heap.size,j,none⟩=some (.int .u32 (ar6 x)))
      (first
       | exact cb
       | exact (((Kp.refl wr).alloc _).drew).cell cb
       | exact (((Kp.refl wr).drew).alloc _).cell cb
       | exact (Kp.grown (((Kp.refl wr).alloc _).drew) hg9 (fun k e=>absurd e (by simp))).cell cb
       | (exact cb9)
       | trace_state)
      (first
       | (refine ahr U rfl (.tmp 33) (.tmp 56) rfl wA.heap.size _ _ rfl (hown.kp ((Kp.refl _).alloc _).drew) _ 4 4 [b0,b1,b2,b3] rfl ((Ow.lit wr 5 0 4 _ _ (Nat.zero_le _) rfl (by decide) rfl).kp (Kp.refl _).drew).rd (by rw[HLn.out];simp;omega) (by have:=hkq.size;simp;omega) ?_;intro v' w9 ho9 hg9;have cb9:w9.cell? ⟨w5.heap.size,j,none⟩=some (.int .u32 (ar6 x)):=(Below.cell (Kp.grown (hkq.alloc _).drew hg9 hown.own_ge) (p:=⟨w5.heap.size,j,none⟩) (Arr.lt hR)).trans ((hR.cell j hlt2).trans (by have:=(hR.kp hkq).cell j hlt2;rw[cb] at this;exact this.symm))))
     all_goals
      go_wp2_with fail;go_roundw
      case rel=>exact ⟨j+1,by omega,by go_num,by rw[HS.out];exact ho9,Kp.grown (hkq.alloc _).drew hg9 hown.own_ge⟩
      case measure=>simp[intOf];omega
    ·obtain rfl:j=8:=by omega
     go_wp2_with fail;go_ret;exact ⟨⟨_,rfl,by rw[HSN.out];exact hown.mono (hkp5.trans hk).size⟩,(hkp5.trans hk).trans hkq⟩
theorem aeN (s:S8)(l m:List UInt8):∀ k,64*k≤l.length→aaB s (l++m) k=aaB s l k
 | 0,_=>rfl
 | k+1,h=>by
  rw[aa7,aa7,aeN s l m k (by omega),List.drop_append_of_le_length (by omega),List.take_append_of_le_length (by simp;omega)]
theorem ah0 (s:S8)(P:List UInt8)(a:Nat):∀ k,aaB (aaB s P a) (P.drop (64*a)) k=aaB s P (a+k)
 | 0=>rfl
 | k+1=>by
  rw[aa7,ah0 s P a k,List.drop_drop,show a+(k+1)=(a+k)+1 by omega,aa7,show 64*a+64*k=64*(a+k) by omega]
theorem ajF (l:List UInt8)(N M:Nat)(hN:N=l.length / 64)(hM:64*M=(l.drop (64*N)++pad l.length).length):
  aaK l=(aaB (aaB abp l N) (l.drop (64*N)++pad l.length) M).bytes:=by
 have h1:(acF l).length=64*(N+M):=by
  unfold acF;rw[List.length_append] at hM ⊢;rw[List.length_drop] at hM;omega
 have h2:(acF l).length / 64=N+M:=by omega
 have h3:l.drop (64*N)++pad l.length=(acF l).drop (64*N):=by
  unfold acF;rw[List.drop_append_of_le_length (by omega)]
 unfold aaK;rw[h2,h3,← ah0];have h4:aaB abp (acF l) N=aaB abp l N:=aeN _ _ _ _ (by omega);rw[h4]
theorem amb (l:List UInt8)(N:Nat)(hN:N=l.length / 64):64*((l.drop (64*N)++pad l.length).length / 64)=(l.drop (64*N)++pad l.length).length:=by
 have:=ajt l.length;rw[List.length_append,List.length_drop];omega
theorem afr {P:Program}{ops:Array Oper}{rest:List Oper}{o:Oper}{a:Act}{w w':World}{Q:Exit→Act→World→Prop}(hgd:o.guard=none)(s x:Operand)(t tn:TypeId)
  (ho:o.op=.call { callee:=.builtin .append,args:=#[s,x],argTypes:=#[t,tn] }) (vs vx v:Value) (hs:a.eval s=vs) (hx:a.eval x=vx)
  (hrun:(Builtin.append_ #[t,tn] o.type #[vs,vx]).run P w=.ok v w') (h:wpList P ops Q rest (a.put o.dst v) w'):wpList P ops Q (o :: rest) a w:=by
 refine wpList_plain hgd fun K hK=>?_
 unfold Oper.wp;simp[execOp,ho,resolve,invoke,builtin,hs,hx,hrun,Result.andThen];exact hK _ _ h
theorem alA (n:Nat)(w:World)(h0:0<n)(h1:n≤1000000):
  Calls Tryz.prog 196 #[.slice none 0 0,.int .i64 n] w fun e w'=>(∃ v,e=.returned v∧Ow 5 w' w.heap.size v [])∧Kp w w':=by
 obtain ⟨i0,hi,hz0,hz1,hz2⟩:=info_parts Tryz.info5;have hold:(Builtin.firstCells i0.size 0 (.slice none 0 0)).run Tryz.prog w.drew=.ok ([]:List Value).toArray w.drew:=rfl;have hrz:∀ ty,(Builtin.append_ #[24,3] ty #[.slice none 0 0,.int .i64 (n:Int)]).run Tryz.prog w =
   .ok (.slice (some ⟨w.heap.size,0,none⟩) n (grownCap w n 0 5)) (w.drew.alloc (.cells (#[]++Builtin.zeroCells (Value.int .u8 0).cells n++Builtin.zeroCells (Value.int .u8 0).cells (grownCap w n 0 5 - n)) 5)):=fun ty=>by
  have h:=Lib.run_append_grow_zeros w 24 3 ty 5 i0 (.int .u8 0) .i64 .i64 Tryz.underlying24 Tryz.underlying3 hi hz0 none 0 0 [] hold n h0 (by omega) (by omega) (by omega) (by rw[hz2];omega)
   (by rw[hz2];have:=growslice_fits (need:=0+n) (old:=0) (bytes:=1) (by omega) (by omega);exact this)
  simpa using h
 have hge:n≤grownCap w n 0 5:=grownCap_ge w _ _ _;have hle:=grownCap_le_maxLen w n 0 5 (by unfold maxLen;omega);generalize grownCap w n 0 5=G at *;unfold maxLen at hle;have hn0:¬(n:Int)<0:=by omega
 have hn1:0<(n:Int):=by omega
 clear hold;go_enter Tryz.func196,Tryz.ntmps196;have hcs:(#[]++Builtin.zeroCells (Value.int .u8 0).cells n++Builtin.zeroCells (Value.int .u8 0).cells (G - n):Array Value).size=G:=by
  simp[size_zeroCells,Value.cells];omega
 generalize (#[]++Builtin.zeroCells (Value.int .u8 0).cells n++Builtin.zeroCells (Value.int .u8 0).cells (G - n):Array Value)=cs at *;have HR:=Lib.hid hrz;have HC:=Lib.hid hcs;clear hrz hcs hz0 hz1 hz2 hi;go_wp2_with (at_builtin;refine afr rfl (.tmp 20) (.tmp 21) _ _ rfl _ _ _ rfl rfl (HR.out _) ?_)
 go_ret;refine ⟨⟨_,rfl,?_⟩,(Kp.refl w).drew.alloc _⟩;refine ⟨rfl,.inr ⟨w.heap.size,G,cs,rfl,Nat.le_refl _,?_,Nat.zero_le _,by unfold maxLen;exact hle,by rw[HC.out];simp,by simp[Lib.byteCells]⟩⟩;exact heap_alloc_new w.drew _
theorem ah3 (g c:Nat)(v1 v2:Value)(l1 l2:List UInt8)(w:World)(hc1:w.cell? ⟨g,0,none⟩=some v1)(hc2:w.cell? ⟨g,1,none⟩=some v2)(h1:Rd w v1 l1)(h2:Rd w v2 l2)(hp:0<l1.length+l2.length)(hb:l1.length+l2.length≤1000000):
  Calls Tryz.prog 168 #[.slice (some ⟨g,0,none⟩) 2 c] w fun e w'=>(∃ v,e=.returned v∧Ow 5 w' w.heap.size v (l1++l2))∧Kp w w':=by
 have U:=ar5;obtain ⟨a1,e1,rfl,p1,q1⟩:=h1.shape;obtain ⟨a2,e2,rfl,p2,q2⟩:=h2.shape;unfold maxLen at q1 q2;go_enter Tryz.func168,Tryz.ntmps168;go_wp2_with fail;go_loopw[3,11] (fun s i wr=>((s=.int .i64 0∧i=.int .i64 0)∨(s=.int .i64 (l1.length:Int)∧i=.int .i64 1)∨(s=.int .i64 ((l1.length:Int)+(l2.length:Int))∧i=.int .i64 2))∧wr=w) (fun _ i _=>2 - (intOf i).toNat)
 case atStart=>exact ⟨.inl ⟨rfl,rfl⟩,rfl⟩
 case round=>
  obtain ⟨hor,rfl⟩:=hrel;rcases hor with ⟨rfl,rfl⟩ | ⟨rfl,rfl⟩ | ⟨rfl,rfl⟩
  ·go_wp2_with fail
   go_roundw
   case rel=>exact ⟨.inr (.inl ⟨by simp,rfl⟩),trivial⟩
   case measure=>simp[intOf]
  ·go_wp2_with fail
   go_roundw
   case rel=>exact ⟨.inr (.inr ⟨by simp,rfl⟩),trivial⟩
   case measure=>simp[intOf]
  ·rename World=>w0
   have hsum:((l1.length+l2.length:Nat):Int)=(l1.length:Int)+(l2.length:Int):=by simp
   have HG:=Lib.hid (alA (l1.length+l2.length) w0 hp hb);rw[hsum] at HG;clear hsum;go_wp2_with fail;refine HG.out.mono ?_;rintro e w1 ⟨⟨v,rfl,ho⟩,hk1⟩;go_wp2_with fail;go_loopw[6,27] (fun ar6 i wq=>((Ow 5 wq w0.heap.size ar6 []∧i=.int .i64 0)∨(Ow 5 wq w0.heap.size ar6 l1∧i=.int .i64 1)∨(Ow 5 wq w0.heap.size ar6 (l1++l2)∧i=.int .i64 2))∧Kp w0 wq) (fun _ i _=>2 - (intOf i).toNat)
   case atStart=>exact ⟨.inl ⟨ho,rfl⟩,hk1⟩
   case round=>
    clear ho hk1;obtain ⟨hor,hk⟩:=hrel;have hc1':=hk.cell hc1;have hc2':=hk.cell hc2;have hr1:=h1.kp hk;have hr2:=h2.kp hk;have hsz:=hk.size;rcases hor with ⟨ho,rfl⟩ | ⟨ho,rfl⟩ | ⟨ho,rfl⟩
    ·go_wp2_with (at_builtin;refine aae U rfl _ _ rfl w0.heap.size _ _ rfl ho _ l1 rfl hr1 ?c1 hsz ?_;rotate_right;intro v' w2 ho2 hg2 _)
     case c1=>simp;omega
     rw[List.nil_append] at ho2;go_roundw
     case rel=>exact ⟨.inr (.inl ⟨ho2,rfl⟩),Kp.grown hk hg2 ho.own_ge⟩
     case measure=>simp[intOf]
    ·go_wp2_with (at_builtin;refine aae U rfl _ _ rfl w0.heap.size _ _ rfl ho _ l2 rfl hr2 ?c1 hsz ?_;rotate_right;intro v' w2 ho2 hg2 _)
     case c1=>omega
     go_roundw
     case rel=>exact ⟨.inr (.inr ⟨ho2,rfl⟩),Kp.grown hk hg2 ho.own_ge⟩
     case measure=>simp[intOf]
    ·go_wp2_with fail
     go_ret;exact ⟨⟨_,rfl,ho⟩,hk⟩
theorem anT (ls:List (List UInt8))(k:Nat)(h:k<ls.length):(ls.take (k+1)).flatten=(ls.take k).flatten++ls.getD k []:=by
 rw[List.take_succ_eq_append_getElem h,List.flatten_append,List.getD_eq_getElem?_getD,List.getElem?_eq_getElem h];simp
theorem aqN (ls:List (List UInt8))(k:Nat):(ls.take k).flatten.length≤ls.flatten.length:=by
 have e:ls.flatten=(ls.take k).flatten++(ls.drop k).flatten:=by rw[← List.flatten_append,List.take_append_drop]
 rw[e,List.length_append];omega
theorem abY (v:Value)(ls:List (List UInt8))(w:World)(h:RL w v ls)(hp:0<ls.flatten.length)(hb:ls.flatten.length≤1000000)(hn:ls.length≤1000000):
  Calls Tryz.prog 168 #[v] w fun e w'=>(∃ v,e=.returned v∧Ow 5 w' w.heap.size v ls.flatten)∧Kp w w':=by
 have U:=ar5;obtain ⟨a,c,rfl,h1,h2⟩:=h.shape;unfold maxLen at h2;have HG:=Lib.hid (alA ls.flatten.length w hp hb);have HF:=Lib.hid (anT ls);have HL:=Lib.hid (aqN ls);have hall:(ls.take ls.length).flatten=ls.flatten:=by rw[List.take_length]
 have HA:=Lib.hid hall;clear hall;go_enter Tryz.func168,Tryz.ntmps168;go_wp2_with fail;go_loopw[3,11] (fun s i wr=>(∃ k:Nat,k≤ls.length∧i=.int .i64 k∧s=.int .i64 ((ls.take k).flatten.length:Int))∧wr=w) (fun _ i _=>ls.length - (intOf i).toNat)
 case atStart=>exact ⟨⟨0,by omega,rfl,rfl⟩,rfl⟩
 case round=>
  obtain ⟨⟨k,hk,rfl,rfl⟩,rfl⟩:=hrel;rename World=>w
  by_cases hlt:k<ls.length
  ·obtain ⟨b,off,rfl,_,hcell⟩:=h.at k hlt
   obtain ⟨ar6,hcu,hru⟩:=hcell k hlt;obtain ⟨au,cu,rfl,p1,p2⟩:=hru.shape;have hs:=congrArg List.length (HF.out k hlt);rw[List.length_append] at hs;have hle:=HL.out (k+1);obtain ⟨N,hN⟩:∃ N,(ls.take k).flatten.length=N:=⟨_,rfl⟩;obtain ⟨M,hM⟩:∃ M,(ls.getD k []).length=M:=⟨_,rfl⟩;obtain ⟨T,hT⟩:∃ T,(ls.take (k+1)).flatten.length=T:=⟨_,rfl⟩;rw[hN,hM,hT] at hs;rw[hT] at hle;rw[hM] at hcu p1;rw[hN];have b1:(N:Int)+(M:Int)≤1000000:=by omega
   have HT:=Lib.hid (show (T:Int)=(N:Int)+(M:Int) by omega);have HT2:=Lib.hid hT;unfold maxLen at p2;clear hcell hru hs hN hM hT HG;go_wp2_with fail;go_roundw
   case rel=>exact ⟨⟨k+1,by omega,by go_num,by rw[HT2.out,HT.out]⟩,trivial⟩
   case measure=>simp[intOf];omega
  ·obtain rfl:k=ls.length:=by omega
   rw[HA.out];obtain ⟨F,hF⟩:∃ F,ls.flatten.length=F:=⟨_,rfl⟩;rw[hF] at HG hp hb;rw[hF];have HFL:=Lib.hid hF;clear hF;go_wp2_with fail;refine HG.out.mono ?_;rintro e w1 ⟨⟨v,rfl,ho⟩,hk1⟩;go_wp2_with fail;go_loopw[6,27] (fun ar6 i wq=>(∃ k:Nat,k≤ls.length∧i=.int .i64 k∧Ow 5 wq w.heap.size ar6 (ls.take k).flatten)∧Kp w wq) (fun _ i _=>ls.length - (intOf i).toNat)
   case atStart=>exact ⟨⟨0,by omega,rfl,ho⟩,hk1⟩
   case round=>
    clear ho hk1;obtain ⟨⟨k,hk,rfl,ho⟩,hkp⟩:=hrel;by_cases hlt:k<ls.length
    ·obtain ⟨b,off,rfl,_,hcell⟩:=h.at k hlt
     obtain ⟨ar6,hcu,hru⟩:=hcell k hlt;have hcu':=hkp.cell hcu;have hru':=hru.kp hkp;obtain ⟨au,cu,rfl,p1,p2⟩:=hru.shape;have hs:=congrArg List.length (HF.out k hlt);rw[List.length_append] at hs;have hle:=HL.out (k+1);rw[HFL.out] at hle;have hle2:(List.take k ls).flatten.length+(ls.getD k []).length≤1000000:=by omega
     have hsz:=hkp.size;have HFK:=Lib.hid (HF.out k hlt);obtain ⟨X,hX⟩:∃ X,ls.getD k []=X:=⟨_,rfl⟩;obtain ⟨Y,hY⟩:∃ Y,(ls.take k).flatten=Y:=⟨_,rfl⟩;rw[hX] at hcu' hru' p1 hle2 HFK;rw[hY] at ho hle2 HFK;unfold maxLen at p2;clear hcell hru hs hcu hle HG hX hY;go_wp2_with (at_builtin;refine aae U rfl _ _ rfl w.heap.size _ _ rfl ho _ X rfl hru' ?c1 hsz ?_;rotate_right;intro v' w2 ho2 hg2 _)
     case c1=>omega
     go_roundw
     case rel=>exact ⟨⟨k+1,by omega,by go_num,by rw[HFK.out];exact ho2⟩,Kp.grown hkp hg2 ho.own_ge⟩
     case measure=>simp[intOf];omega
    ·obtain rfl:k=ls.length:=by omega
     rw[HA.out] at ho;go_wp2_with fail;go_ret;exact ⟨⟨_,rfl,ho⟩,hkp⟩
end Go.Proofs.YthmhklmkgkfcpaaGreatDoor
