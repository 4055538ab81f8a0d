import Derived.Test.YthmhklmkgkfcpaaGreatDoorU13
import Derived.Deep.MidRow
import Derived.Deep.RegionHeld3
import Derived.Laws.CopyOwn
set_option linter.unusedVariables false
set_option linter.unusedSimpArgs false
set_option maxHeartbeats 8000000
set_option maxRecDepth 100000
namespace Go.Proofs.YthmhklmkgkfcpaaGreatDoor
open Go.RowKit
theorem ajS (gs:Nat)(s:List UInt8)(w:World)(hs:s.length=16)(hB:By 231 w gs s):
  Calls Tryz.prog 243 #[.pointer (some ⟨gs,0,none⟩)] w fun e w'=>e=.returned (.tuple #[])∧By 231 w' gs (mixS s)∧Wr gs w w':=by
 have H0:=Lib.hid (agZ.begin hs);have HN:=Lib.hid (fun l n h hn a b c d=>agZ.next (t:=s) (l:=l) (n:=n) h hn a b c d);have HA:=Lib.hid (fun l (h:agZ s (4*4) l)=>h.all);generalize mixS s=X at *;go_enter Tryz.func243,Tryz.ntmps243;go_wp2_with fail;go_loopw[2] (fun p wr=>∃ (n:Nat) (l:List UInt8),n≤4∧p=.int .i64 (4*n:Nat)∧Hid (agZ s (4*n) l)∧By 231 wr gs l∧Wr gs w wr) (fun p _=>16 - (intOf p).toNat)
 case atStart=>exact ⟨0,s,by omega,rfl,H0,hB,Wr.refl _ _⟩
 case round=>
  clear hB H0;obtain ⟨n,l,hn,rfl,HM,hB,hw⟩:=hrel;by_cases hlt:n<4
  ·have hl:=HM.out.1
   have g0:l.getD (4*n) 0=s.getD (4*n) 0:=by rw[HM.out.2 _ (by omega),if_neg (by omega)]
   have g1:l.getD (4*n+1) 0=s.getD (4*n+1) 0:=by rw[HM.out.2 _ (by omega),if_neg (by omega)]
   have g2:l.getD (4*n+2) 0=s.getD (4*n+2) 0:=by rw[HM.out.2 _ (by omega),if_neg (by omega)]
   have g3:l.getD (4*n+3) 0=s.getD (4*n+3) 0:=by rw[HM.out.2 _ (by omega),if_neg (by omega)]
   have c0:=hB.cell (4*n) (by omega);have c1:=hB.cell (4*n+1) (by omega);have c2:=hB.cell (4*n+2) (by omega);have c3:=hB.cell (4*n+3) (by omega);have f0:=hB.frozen (4*n);rw[g0] at c0;rw[g1] at c1;rw[g2] at c2;rw[g3] at c3;obtain ⟨a,ha⟩:∃ a,s.getD (4*n) 0=a:=⟨_,rfl⟩;obtain ⟨b,hb⟩:∃ b,s.getD (4*n+1) 0=b:=⟨_,rfl⟩;obtain ⟨c,hc⟩:∃ c,s.getD (4*n+2) 0=c:=⟨_,rfl⟩;obtain ⟨d,hd⟩:∃ d,s.getD (4*n+3) 0=d:=⟨_,rfl⟩;have HT:=Lib.hid (HN.out l n HM.out hlt a b c d ha hb hc hd);rw[ha] at c0;rw[hb] at c1;rw[hc] at c2;rw[hd] at c3;have hN:n<4:=hlt;have q:((4*n:Nat):Int)<16:=by omega
   obtain ⟨i,hi⟩:∃ i,4*n=i:=⟨_,rfl⟩;rw[hi] at q c0 c1 c2 c3 f0 HT ⊢;have hi16:i+3<16:=by omega
   have i1:IntKind.i64.wrap ((i:Int)+1)=(i:Int)+1:=IntWalk.i64_in _ (by omega);have i2:IntKind.i64.wrap ((i:Int)+2)=(i:Int)+2:=IntWalk.i64_in _ (by omega);have i3:IntKind.i64.wrap ((i:Int)+3)=(i:Int)+3:=IntWalk.i64_in _ (by omega);have q1:(i:Int)+1<16:=by omega
   have q2:(i:Int)+2<16:=by omega
   have q3:(i:Int)+3<16:=by omega
   have t1:((i:Int)+1).toNat=i+1:=by omega
   have t2:((i:Int)+2).toNat=i+2:=by omega
   have t3:((i:Int)+3).toNat=i+3:=by omega
   have HI:=Lib.hid hi;have p1:(0:Int)≤(i:Int)+1:=by omega
   have p2:(0:Int)≤(i:Int)+2:=by omega
   have arL:(0:Int)≤(i:Int)+3:=by omega
   obtain ⟨m1,m2,m3⟩:=aqQ a b c d;have m0:=agc a b c d;have x1:=abw a b;have x2:=abw (a ^^^ b) c;have x3:=abw (a ^^^ b ^^^ c) d;have x4:=abw b c;have x5:=abw c d;have x6:=abw d a;have y0:=abw (a ^^^ b ^^^ c ^^^ d) (mulB (a ^^^ b) 2);have y1:=abw (a ^^^ b ^^^ c ^^^ d) (mulB (b ^^^ c) 2);have y2:=abw (a ^^^ b ^^^ c ^^^ d) (mulB (c ^^^ d) 2);have y3:=abw (a ^^^ b ^^^ c ^^^ d) (mulB (d ^^^ a) 2);have z0:=abw a (a ^^^ b ^^^ c ^^^ d ^^^ mulB (a ^^^ b) 2);have z1:=abw b (a ^^^ b ^^^ c ^^^ d ^^^ mulB (b ^^^ c) 2);have z2:=abw c (a ^^^ b ^^^ c ^^^ d ^^^ mulB (c ^^^ d) 2);have z3:=abw d (a ^^^ b ^^^ c ^^^ d ^^^ mulB (d ^^^ a) 2);rw[← m0] at z0;rw[← m1] at z1;rw[← m2] at z2;rw[← m3] at z3;have d0:=Lib.hid (fun W=>act (a ^^^ b) W);have d1:=Lib.hid (fun W=>act (b ^^^ c) W);have d2:=Lib.hid (fun W=>act (c ^^^ d) W);have d3:=Lib.hid (fun W=>act (d ^^^ a) W);clear m0 m1 m2 m3;generalize mix4 a b c d=A at *;generalize mix4 b c d a=B at *;generalize mix4 c d a b=C at *;generalize mix4 d a b c=D at *;generalize a ^^^ b ^^^ c ^^^ d ^^^ mulB (a ^^^ b) 2=E0 at *;generalize a ^^^ b ^^^ c ^^^ d ^^^ mulB (b ^^^ c) 2=E1 at *;generalize a ^^^ b ^^^ c ^^^ d ^^^ mulB (c ^^^ d) 2=E2 at *;generalize a ^^^ b ^^^ c ^^^ d ^^^ mulB (d ^^^ a) 2=E3 at *;generalize mulB (a ^^^ b) 2=D0 at *;generalize mulB (b ^^^ c) 2=D1 at *;generalize mulB (c ^^^ d) 2=D2 at *;generalize mulB (d ^^^ a) 2=D3 at *;generalize a ^^^ b ^^^ c ^^^ d=F at *;generalize a ^^^ b ^^^ c=G at *;generalize a ^^^ b=X0 at *;generalize b ^^^ c=X1 at *;generalize c ^^^ d=X2 at *;generalize d ^^^ a=X3 at *;have P1:=Lib.hid (And.intro x4 (And.intro y1 (And.intro z1 (And.intro i1 (And.intro q1 (And.intro t1 p1))))));have P2:=Lib.hid (And.intro x5 (And.intro y2 (And.intro z2 (And.intro i2 (And.intro q2 (And.intro t2 p2))))));have P3:=Lib.hid (And.intro x6 (And.intro y3 (And.intro z3 (And.intro i3 (And.intro q3 (And.intro t3 arL))))));have PX:=Lib.hid (And.intro x1 (And.intro x2 x3));have P0:=Lib.hid (And.intro y0 z0);have HF:=Lib.hid f0;clear g0 g1 g2 g3 ha hb hc hd hN hi HM x1 x2 x3 x4 x5 x6 y0 y1 y2 y3 z0 z1 z2 z3 f0;go_wp2_with fail;go_region
   obtain ⟨x1,x2,x3⟩:=PX.out;clear i1 i2 i3 p1 p2 arL t1 t2 t3 q1 q2 q3;have C1:=Lib.hid c1;have C2:=Lib.hid c2;have C3:=Lib.hid c3;clear c1 c2 c3;go_wp2_with fail;have f0:=HF.out;obtain ⟨y0,z0⟩:=P0.out;clear x2 x3;apply later
   case ways=>
    intro key;go_region_with (go_at_call 240;refine (d0.out _).mono ?_;rintro _ _ ⟨rfl,rfl⟩)
    all_goals exact key.out
   case rest=>
    constructor;have hB1:By 231 ((wr.setCell ⟨gs,i,none⟩ (.int .u8 (A.toNat:Int))).drew.drew) gs (l.set i A):=hB.set (i) A rfl;have hw1:Wr gs w ((wr.setCell ⟨gs,i,none⟩ (.int .u8 (A.toNat:Int))).drew.drew):=((hw.setCell (i) _).drew).drew;have C11:Hid (((wr.setCell ⟨gs,i,none⟩ (.int .u8 (A.toNat:Int))).drew.drew).cell? ⟨gs,i+1,none⟩=some (.int .u8 (b.toNat:Int))):=(World.cell?_setCell_other _ _ _ _ (by simp)).trans C1.out;have C21:Hid (((wr.setCell ⟨gs,i,none⟩ (.int .u8 (A.toNat:Int))).drew.drew).cell? ⟨gs,i+2,none⟩=some (.int .u8 (c.toNat:Int))):=(World.cell?_setCell_other _ _ _ _ (by simp)).trans C2.out;have C31:Hid (((wr.setCell ⟨gs,i,none⟩ (.int .u8 (A.toNat:Int))).drew.drew).cell? ⟨gs,i+3,none⟩=some (.int .u8 (d.toNat:Int))):=(World.cell?_setCell_other _ _ _ _ (by simp)).trans C3.out;generalize (wr.setCell ⟨gs,i,none⟩ (.int .u8 (A.toNat:Int))).drew.drew=W1 at *;have c1:=C11.out;have f1:=hB1.frozen (i+1);obtain ⟨xx1,yy1,zz1,ii1,qq1,tt1,pp1⟩:=P1.out;clear hB hw x1 y0 z0 c0 f0;go_wp2_with fail;apply later
    case ways=>
     intro key;go_region_with (go_at_call 240;refine (d1.out _).mono ?_;rintro _ _ ⟨rfl,rfl⟩)
     all_goals exact key.out
    case rest=>
     constructor;have hB2:By 231 ((W1.setCell ⟨gs,i+1,none⟩ (.int .u8 (B.toNat:Int))).drew) gs ((l.set i A).set (i+1) B):=hB1.set (i+1) B rfl;have hw2:Wr gs w ((W1.setCell ⟨gs,i+1,none⟩ (.int .u8 (B.toNat:Int))).drew):=(hw1.setCell (i+1) _).drew;have C22:Hid (((W1.setCell ⟨gs,i+1,none⟩ (.int .u8 (B.toNat:Int))).drew).cell? ⟨gs,i+2,none⟩=some (.int .u8 (c.toNat:Int))):=(World.cell?_setCell_other _ _ _ _ (by simp)).trans C21.out;have C32:Hid (((W1.setCell ⟨gs,i+1,none⟩ (.int .u8 (B.toNat:Int))).drew).cell? ⟨gs,i+3,none⟩=some (.int .u8 (d.toNat:Int))):=(World.cell?_setCell_other _ _ _ _ (by simp)).trans C31.out;generalize (W1.setCell ⟨gs,i+1,none⟩ (.int .u8 (B.toNat:Int))).drew=W2 at *;have c2:=C22.out;have f2:=hB2.frozen (i+2);obtain ⟨xx2,yy2,zz2,ii2,qq2,tt2,pp2⟩:=P2.out;clear hB1 hw1 c1 f1 xx1 yy1 zz1 ii1 qq1 tt1 pp1;go_wp2_with fail;apply later
     case ways=>
      intro key;go_region_with (go_at_call 240;refine (d2.out _).mono ?_;rintro _ _ ⟨rfl,rfl⟩)
      all_goals exact key.out
     case rest=>
      constructor;have hB3:By 231 ((W2.setCell ⟨gs,i+2,none⟩ (.int .u8 (C.toNat:Int))).drew) gs (((l.set i A).set (i+1) B).set (i+2) C):=hB2.set (i+2) C rfl;have hw3:Wr gs w ((W2.setCell ⟨gs,i+2,none⟩ (.int .u8 (C.toNat:Int))).drew):=(hw2.setCell (i+2) _).drew;have C33:Hid (((W2.setCell ⟨gs,i+2,none⟩ (.int .u8 (C.toNat:Int))).drew).cell? ⟨gs,i+3,none⟩=some (.int .u8 (d.toNat:Int))):=(World.cell?_setCell_other _ _ _ _ (by simp)).trans C32.out;generalize (W2.setCell ⟨gs,i+2,none⟩ (.int .u8 (C.toNat:Int))).drew=W3 at *;have c3:=C33.out;have f3:=hB3.frozen (i+3);obtain ⟨xx3,yy3,zz3,ii3,qq3,tt3,pp3⟩:=P3.out;clear hB2 hw2 c2 f2 xx2 yy2 zz2 ii2 qq2 tt2 pp2;go_wp2_with fail;apply later
      case ways=>
       intro key;go_region_with (go_at_call 240;refine (d3.out _).mono ?_;rintro _ _ ⟨rfl,rfl⟩)
       all_goals exact key.out
      case rest=>
       constructor;have hB4:By 231 ((W3.setCell ⟨gs,i+3,none⟩ (.int .u8 (D.toNat:Int))).drew) gs ((((l.set i A).set (i+1) B).set (i+2) C).set (i+3) D):=hB3.set (i+3) D rfl;have hw4:Wr gs w ((W3.setCell ⟨gs,i+3,none⟩ (.int .u8 (D.toNat:Int))).drew):=(hw3.setCell (i+3) _).drew;generalize (W3.setCell ⟨gs,i+3,none⟩ (.int .u8 (D.toNat:Int))).drew=W4 at *;have i4:IntKind.i64.wrap ((i:Int)+4)=((4*(n+1):Nat):Int):=by rw[IntWalk.i64_in _ (by omega),← HI.out];omega
       go_wp2_with fail;go_roundw
       case rel=>exact ⟨n+1,_,by omega,rfl,HT,hB4,hw4⟩
       case measure=>have hI:=HI.out;simp[intOf];omega
  ·obtain rfl:n=4:=by omega
   have hx:=HA.out l HM.out;rw[hx] at hB;go_wp2_with fail;go_end0
   exact ⟨rfl,hB,hw⟩
theorem amA {w w':World}{b o:Nat}{cs:List Value}(k:Kp w w')(h:w.rangeAt b o cs):w'.rangeAt b o cs:=fun j v hv=>k.cell (h j v hv)
theorem aiR {w w':World}{b o n:Nat}(k:Kp w w')(h:w.there b o n):w'.there b o n:=fun j hj=>by
 obtain ⟨h1,h2⟩:=h j hj;obtain ⟨v,hv⟩:=Option.isSome_iff_exists.1 h1;have hb:=World.block_lt_of_cell? w _ hv;refine ⟨by rw[k.cell hv];rfl,?_⟩;rw[← h2];have:=k.block b hb;simp only[World.frozen?,this]
theorem aia {w:World}{b o n o' n':Nat}(h:w.there b o n)(h1:o≤o')(h2:o'+n'≤o+n):w.there b o' n':=fun j hj=>by
 have:=h (o' - o+j) (by omega);rwa [show o+(o' - o+j)=o'+j by omega] at this
theorem Lies.range {w:World}{b o n:Nat}{K:List UInt8}(h:Lies w b o K)(hn:16*n+16≤K.length):w.rangeAt b (o+16*n) (Lib.byteCells (rowK K n)):=fun j v hv=>by
 have hl:=aaW hn;have hj:j<(rowK K n).length:=by
  have:=(List.getElem?_eq_some_iff.1 hv).1;rwa [aaf] at this
 rw[aaO _ j hj] at hv;cases hv;have hc:=h (16*n+j) (by omega);rw[← abt (by omega),List.getD_eq_getElem?_getD,List.getElem?_eq_getElem hj] at hc;rw[Nat.add_assoc,hc];rfl
theorem Lies.row {w:World}{b o n:Nat}{K:List UInt8}(h:Lies w b o K)(hn:16*n+16≤K.length):Lies w b (o+16*n) (rowK K n):=fun i hi=>by
 rw[aaW hn] at hi;rw[abt hi,Nat.add_assoc];exact h (16*n+i) (by omega)
theorem ag0 (K:List UInt8)(m i:Nat)(h:i<m):(K.take m).getD i 0=K.getD i 0:=by
 rw[List.getD_eq_getElem?_getD,List.getElem?_take_of_lt h,List.getD_eq_getElem?_getD]
theorem Lies.store {w:World}{b o n:Nat}{K:List UInt8}(h:Lies w b o (K.take (16*(n+1))))(ht:w.there b o K.length)(hn:16*(n+1)+16≤K.length):
  Lies (w.setCells b (o+16*(n+1)) (Lib.byteCells (rowK K (n+1)))) b o (K.take (16*(n+1+1))):=fun i hi=>by
 have hl:=aaW hn;have hlen:i<16*(n+1+1):=by rw[List.length_take] at hi;omega
 rw[ag0 _ _ _ hlen];by_cases hlt:i<16*(n+1)
 ·rw[World.cell?_setCells_out b _ _ _ _ (fun _ _=>.inl (by show o+i<o+16*(n+1);omega))]
  have:=h i (by rw[List.length_take];omega);rwa [ag0 _ _ _ hlt] at this
 ·have hj:i - 16*(n+1)<(rowK K (n+1)).length:=by omega
  have:=World.cell?_setCells_in b (Lib.byteCells (rowK K (n+1))) (o+16*(n+1)) w (fun j hj=>((aia ht (o':=o+16*(n+1)) (n':=16) (by omega) (by omega)) j (by rw[aaf] at hj;omega)).1) (i - 16*(n+1)) (by rw[aaf];exact hj);rw[show o+16*(n+1)+(i - 16*(n+1))=o+i by omega] at this;rw[this];have hg:=aaO _ _ hj;rw[List.getElem?_eq_getElem (by rw[aaf];exact hj)] at hg;rw[Option.some.inj hg];have:=abt (K:=K) (n:=n+1) (j:=i - 16*(n+1)) (by omega);rw[show 16*(n+1)+(i - 16*(n+1))=i by omega,List.getD_eq_getElem?_getD,List.getElem?_eq_getElem hj] at this;rw[← this];rfl
theorem ag1 {g:Nat}:∀ (vs:List Value) (o:Nat) (A w:World),Wr g A w→Wr g A (w.setCells g o vs)
 | [],_,_,_,h=>h
 | v :: r,o,A,w,h=>ag1 r (o+1) A _ (h.setCell o v)
structure Cph (w:World)(gc bx:Nat)(K:List UInt8):Prop where
 ptr:w.cell? ⟨gc,0,none⟩=some (.pointer (some ⟨bx,0,none⟩))
 rows:Lies w gc 1 K
 box:By 283 w bx aei
theorem Cph.kp {w w':World}{gc bx:Nat}{K:List UInt8}(h:Cph w gc bx K)(k:Kp w w'):Cph w' gc bx K:=⟨k.cell h.ptr,h.rows.kp k,h.box.kp k⟩
theorem Cph.wr {w w':World}{gc bx gs:Nat}{K:List UInt8}(h:Cph w gc bx K)(k:Wr gs w w')(h1:gc≠gs)(h2:bx≠gs):Cph w' gc bx K:=⟨k.cell h.ptr h1,h.rows.wr k h1,k.by h.box h2⟩
theorem akT:∀ w,(zeroValue 261).run Tryz.prog w=.ok (.agg (#[.pointer none]++aaA (List.replicate 176 0))) w:=(zero_of_info (n:=177) (by kernel_rfl)).1
theorem amB (l:List UInt8)(v:Value):(#[Value.pointer none]++aaA l).setIfInBounds 0 v=#[v]++aaA l:=by
 apply Array.ext';simp
theorem ajT {w:World}{gc:Nat}{T:TypeId}{p:Value}{key:List UInt8}(hg:w.heap[gc]?=some (.cells ((#[p]++aaA (List.replicate 176 0)).toList.take 1++(Lib.byteCells key++(#[p]++aaA (List.replicate 176 0)).toList.drop (1+(Lib.byteCells key).length))).toArray T (0,0)))(hk:key.length=16):
  w.cell? ⟨gc,0,none⟩=some p∧Lies w gc 1 key∧w.there gc 1 176:=by
 have e:((#[p]++aaA (List.replicate 176 0)).toList.take 1++(Lib.byteCells key++(#[p]++aaA (List.replicate 176 0)).toList.drop (1+(Lib.byteCells key).length)))=p :: (Lib.byteCells key++(Lib.byteCells (List.replicate 176 0)).drop 16):=by
  rw[aaf,hk];simp[aaA]
 rw[e] at hg;have hl:(Lib.byteCells key++(Lib.byteCells (List.replicate 176 0)).drop 16).length=176:=by rw[List.length_append,List.length_drop,aaf,aaf,hk,List.length_replicate]
 refine ⟨by rw[cell_of_row _ _ _ _ _ _ hg];simp,fun i hi=>?_,fun j hj=>⟨?_,?_⟩⟩
 ·rw[cell_of_row _ _ _ _ _ _ hg,List.getElem?_toArray,Nat.add_comm 1 i,List.getElem?_cons_succ,List.getElem?_append_left (by rw[aaf];exact hi),aaO key i hi,List.getD_eq_getElem?_getD,List.getElem?_eq_getElem hi]
  rfl
 ·rw[cell_of_row _ _ _ _ _ _ hg,List.getElem?_toArray,Nat.add_comm 1 j,List.getElem?_cons_succ,List.getElem?_eq_getElem (by omega)]
  rfl
 ·simp[World.frozen?,hg]
theorem amC {key:List UInt8}(h:key.length=16):(adV key).take (16*(0+1))=key:=by
 have:=aku h;unfold rowK at this;simpa using this
theorem aiS (arO:Value)(key:List UInt8)(w:World)(hu:Rd w arO key)(hk:key.length=16):
  Calls Tryz.prog 205 #[arO] w fun e w'=>(∃ gc bx,e=.returned (.pointer (some ⟨gc,0,none⟩))∧Cph w' gc bx (adV key)∧w.heap.size≤gc∧w.heap.size≤bx)∧Kp w w':=by
 have U:=arN;have hsz8:(Tryz.prog.info? 5).map (·.size)=some 1:=by kernel_rfl
 obtain ⟨ad,c,rfl,hc1,hc2⟩:=hu.shape;rw[hk] at hc1 hu ⊢;obtain ⟨ab,ao,rfl,hab,hac⟩:=hu.at 0 (by omega);have z1:=akT;have HS:=Lib.hid (amB (List.replicate 176 0));have HST:=Lib.hid (fun (w:World) (gc:Nat) (T:TypeId) (p:Value) h=>ajT (w:=w) (gc:=gc) (T:=T) (p:=p) (key:=key) h hk);have hs:(#[Value.pointer none]++aaA (List.replicate 176 0)).size=177:=by rw[Array.size_append,abg];rfl
 obtain ⟨Z,hZ⟩:∃ Z,#[Value.pointer none]++aaA (List.replicate 176 0)=Z:=⟨_,rfl⟩;rw[hZ] at z1 HS hs;have hz:¬Z=#[]:=fun h=>by rw[h] at hs;simp at hs
 clear hZ;have HL:=Lib.hid (acO hk);have HT:=Lib.hid (amC hk);have HNX:=Lib.hid (anO hk);generalize adV key=K at *;go_enter Tryz.func205,Tryz.ntmps205;go_wp2_with fail;refine (ajR w).mono ?_;rintro _ w1 ⟨⟨bx,rfl,hX,hbx⟩,k1⟩;have hge:=k1.size;obtain ⟨Y,hY⟩:∃ Y,Z.setIfInBounds 0 (Value.pointer (some ⟨bx,0,none⟩))=Y:=⟨_,rfl⟩;have hYZ:=HS.out (Value.pointer (some ⟨bx,0,none⟩));rw[hY] at hYZ;have HY:=Lib.hid hYZ;have hYs:Y.size=177:=by rw[← hY,Array.size_setIfInBounds,hs]
 clear hYZ;have HSRC:Hid (∀ W,Kp w W→∀ j v,(Lib.byteCells key)[j]?=some v→W.cell? ((⟨ab,ao,none⟩:Addr).add j)=some v):=fun W hW j v hj=>by
  have hl:j<key.length:=by
   have:=(List.getElem?_eq_some_iff.1 hj).1;rwa [aaf] at this
  rw[aaO key j hl] at hj;cases hj;have:=hW.cell (hac j (by omega));rw[Addr.add_mid,this,List.getD_eq_getElem?_getD,List.getElem?_eq_getElem hl];rfl
 have HBL:=Lib.hid (aaf key);clear hac hu;go_wp2_with (refine wpList_copy_own (cs:=Lib.byteCells key) rfl (.tmp 13) (.tmp 14) 24 24 rfl 5 Tryz.underlying24 hsz8 w1.heap.size 1 16 16 ⟨ab,ao,none⟩ 16 c rfl rfl Y 261 (heap_alloc_new w1 _) (by rw[HBL.out,hk];rfl) (HSRC.out _ (k1.alloc _)) (by rw[HBL.out,hk,hYs];omega) (fun v hv=>by obtain ⟨b,_,rfl⟩:=List.mem_map.1 hv;rfl) ?_)
 obtain ⟨W2,hW2⟩:∃ W,(w1.alloc (.cells Y 261)).setRow w1.heap.size (Y.toList.take 1++(Lib.byteCells key++Y.toList.drop (1+(Lib.byteCells key).length))).toArray=W:=⟨_,rfl⟩;rw[hW2];have hg:W2.heap[w1.heap.size]?=some (.cells (Y.toList.take 1++(Lib.byteCells key++Y.toList.drop (1+(Lib.byteCells key).length))).toArray 261 (0,0)):=by
  rw[← hW2];exact setRow_heap _ _ Y _ _ _ (heap_alloc_new w1 _)
 have k2:Kp w W2:=by
  rw[← hW2];exact Go.Proofs.YthmhklmkgkfcpaaGreatDoor.below_setRow (k1.alloc _) hge _
 have X2:By 283 W2 bx aei:=by
  rw[← hW2];exact (Go.Proofs.YthmhklmkgkfcpaaGreatDoor.setRow_other _ _ _ _ (by have:=hX.lt;omega)).trans (hX.kp ((Kp.refl w1).alloc _))
 rw[HY.out] at hg;obtain ⟨p2,l2,t2⟩:=HST.out _ _ _ _ hg;have hbx2:bx≠w1.heap.size:=by have:=hX.lt;omega
 rw[← HT.out] at l2;have hgc:w.heap.size≤w1.heap.size:=hge;generalize w1.heap.size=gc at *;clear hg hW2 HBL HSRC HST hY HY hYs hX k1 hs HS z1 hz hk U hsz8 HT;have hu51:Tryz.prog.underlying 231=some (.array 16 5):=Tryz.underlying231;have hi51:(Tryz.prog.info? 231).map (·.size)=some 16:=by kernel_rfl
 go_loopw[4,16] (fun r p wr=>∃ n:Nat,n≤10∧p=.int .i64 n∧r=.int .u8 ((rcon n).toNat:Int)∧wr.cell? ⟨gc,0,none⟩=some (.pointer (some ⟨bx,0,none⟩))∧Lies wr gc 1 (K.take (16*(n+1)))∧wr.there gc 1 176∧By 283 wr bx aei∧Kp w wr) (fun _ p _=>10 - (intOf p).toNat)
 case atStart=>exact ⟨0,by omega,rfl,rfl,p2,l2,t2,X2,k2⟩
 case round=>
  clear p2 l2 t2 X2 k2;obtain ⟨n,hn,rfl,rfl,hp,hl,ht,hX,hkp⟩:=hrel;by_cases hlt:n<10
  ·have q1:(n:Int)<10:=by omega
   have q2:(n:Int)<11:=by omega
   have q3:(n:Int)+1<11:=by omega
   have q4:(0:Int)≤(n:Int)+1:=by omega
   have i1:IntKind.i64.wrap ((n:Int)+1)=(n:Int)+1:=IntWalk.i64_in _ (by omega);have i2:((n:Int)+1).toNat=n+1:=by omega
   have hKl:=HL.out;have hrow:rowK (K.take (16*(n+1))) n=rowK K n:=by
    refine afm 16 _ _ (aaW (by rw[List.length_take];omega)) (aaW (by omega)) fun i hi=>?_
    rw[abt hi,abt hi,ag0 _ _ _ (by omega)]
   have hr:=hl.range (n:=n) (by rw[List.length_take];omega);rw[hrow,Nat.mul_comm 16 n] at hr;have ht2:=aia ht (o':=1+16*(n+1)) (n':=16) (by omega) (by omega);rw[Nat.mul_comm 16 (n+1)] at ht2;have hlen1:(Lib.byteCells (rowK K n)).length=16:=by rw[aaf];exact aaW (by omega)
   have hlen2:(Lib.byteCells (rowK K (n+1))).length=16:=by rw[aaf];exact aaW (by omega)
   have hNX:=HNX.out n hlt;have hone:∀ v∈Lib.byteCells (rowK K (n+1)),v.oneCell'=true:=fun v hv=>by obtain ⟨b,_,rfl⟩:=List.mem_map.1 hv;rfl
   have hnext:Calls Tryz.prog 239 #[.pointer (some ⟨gc,0,none⟩),.agg (Lib.byteCells (rowK K n)).toArray,.int .u8 ((rcon n).toNat:Int)] wr.drew fun e w'=>e=.returned (.agg (Lib.byteCells (rowK K (n+1))).toArray)∧Kp wr.drew w':=
    apA gc bx (rowK K n) (rowK K (n+1)) (rcon n) wr.drew (aaW (by omega)) hNX hp hX.drew
   have HNEXT:=Lib.hid hnext;have HD:=Lib.hid (fun W=>act (rcon n) W);have HK:=Lib.hid hkp;have HP:=Lib.hid hp;have HLI:=Lib.hid hl;have HTH:=Lib.hid ht;have HXX:=Lib.hid hX;have HRW:=Lib.hid hrow;generalize hcs1:Lib.byteCells (rowK K n)=cs1 at *;generalize hcs2:Lib.byteCells (rowK K (n+1))=cs2 at *;have HC:=Lib.hid hcs2;clear hnext hNX hp hl ht hX hkp hrow hcs1 hcs2;go_wp2_with fail;go_region_held3 (fun W=>W.rangeAt gc (1+n*16) cs1∧W.there gc (1+(n+1)*16) 16)
    (first
     | (refine ⟨(World.rangeAt_drew _ _ _ _).2 ?_,(World.there_drew _ _ _ _).2 ?_⟩ <;> assumption)
     | (go_split_ands;exact ⟨amA (by assumption) (by assumption),aiR (by assumption) (by assumption)⟩)
     | (go_split_ands;exact ⟨World.rangeAt_setCells_apart (by assumption) _ _ _ (by omega),World.there_setCells (by assumption) _ _ _⟩))
    (first
     | (go_at_call 239;refine HNEXT.out.mono ?_;rintro _ w7 ⟨rfl,hk7⟩))
   have k7:=hk7;have hgs:w.heap.size≤w7.heap.size:=Nat.le_trans HK.out.size hk7.size;have hw8:=ag1 (g:=gc) cs2 (1+(n+1)*16) w7 w7 (Wr.refl gc w7);have hk8:Kp w (w7.setCells gc (1+(n+1)*16) cs2):=Below.trans (show Below w.heap.size w w7 from HK.out.drew.trans hk7) (hw8.below hgs hgc);have hp8:(w7.setCells gc (1+(n+1)*16) cs2).cell? ⟨gc,0,none⟩=some (.pointer (some ⟨bx,0,none⟩)):=by
    rw[World.cell?_setCells_out gc _ _ _ _ (fun _ _=>.inl (by show 0<1+(n+1)*16;omega))];exact hk7.cell HP.out
   have ht8:(w7.setCells gc (1+(n+1)*16) cs2).there gc 1 176:=World.there_setCells (aiR hk7 ((World.there_drew _ _ _ _).2 HTH.out)) _ _ _;have hX8:=hw8.by (HXX.out.drew.kp hk7) hbx2;have hl8:Lies (w7.setCells gc (1+(n+1)*16) cs2) gc 1 (K.take (16*(n+1+1))):=by
    rw[← HC.out,Nat.mul_comm (n+1) 16];exact Lies.store (Lies.kp (show Lies wr.drew gc 1 _ from HLI.out) hk7) (by rw[HL.out];exact aiR hk7 ((World.there_drew _ _ _ _).2 HTH.out)) (by rw[HL.out];omega)
   generalize w7.setCells gc (1+(n+1)*16) cs2=W8 at *;have HP8:=Lib.hid hp8;have HL8:=Lib.hid hl8;have HT8:=Lib.hid ht8;clear hp8 hl8 ht8 hw8;go_wp2_with (go_at_call 240;refine (HD.out _).mono ?_;rintro _ _ ⟨rfl,rfl⟩)
   go_roundw
   case rel=>exact ⟨n+1,by omega,by go_num,rfl,HP8.out,HL8.out,HT8.out,hX8,hk8⟩
   case measure=>simp[intOf];omega
  ·obtain rfl:n=10:=by omega
   have hKl:=HL.out;rw[List.take_of_length_le (by omega)] at hl;go_wp2_with fail;go_ret;exact ⟨⟨gc,bx,rfl,⟨hp,hl,hX⟩,hgc,hbx⟩,hkp⟩
theorem aiT (s K:List UInt8)(n:Nat):addR s (rowK K n)=addS s K n:=by
 unfold addR addS tab;apply List.map_congr_left;intro i hi;rw[abt (by simpa using hi)]
theorem akU (K s:List UInt8)(n:Nat)(h:n+1<10):addS (mixS (subS (acC K s n))) K (n+1)=acC K s (n+1):=by
 rw[acC,anN,if_pos h]
theorem akV (K s:List UInt8)(n:Nat)(h:¬n+1<10):addS (subS (acC K s n)) K (n+1)=acC K s (n+1):=by
 rw[acC,anN,if_neg h]
theorem apB (gc gs bx:Nat)(s K:List UInt8)(w:World)(hs:s.length=16)(hK:K.length=176)(hcs:gc≠gs)(hbs:bx≠gs)(hC:Cph w gc bx K)(hB:By 231 w gs s):
  Calls Tryz.prog 206 #[.pointer (some ⟨gc,0,none⟩),.pointer (some ⟨gs,0,none⟩)] w fun e w'=>e=.returned (.tuple #[])∧By 231 w' gs (air K s)∧Wr gs w w':=by
 have HR:Hid (∀ n,n≤10→(rowK K n).length=16):=fun n hn=>aaW (by omega)
 have HROW:Hid (∀ W n,n≤10→Cph W gc bx K→Lies W gc (1+n*16) (rowK K n)):=fun W n hn h=>by
  rw[Nat.mul_comm];exact h.rows.row (by omega)
 have h0:=HROW.out w 0 (by omega) hC;have hlen:Hid (∀ n,(acC K s n).length=16):=aeP K s;have hl0:=akR gs gc 1 s (rowK K 0) w hs (HR.out 0 (by omega)) hcs hB h0;rw[aiT] at hl0;have hl0':Calls Tryz.prog 241 #[.pointer (some ⟨gs,0,none⟩),.pointer (some ⟨gc,1,none⟩)] w fun e w'=>e=.returned (.tuple #[])∧By 231 w' gs (acC K s 0)∧Wr gs w w':=hl0
 clear hl0 h0;go_enter Tryz.func206,Tryz.ntmps206;go_wp2_with fail;refine hl0'.mono ?_;rintro _ w1 ⟨rfl,hB1,hw1⟩;clear hl0' hB;go_wp2_with fail;go_loopw[11] (fun p wr=>∃ n:Nat,n≤10∧p=.int .i64 n∧By 231 wr gs (acC K s n)∧Wr gs w wr) (fun p _=>10 - (intOf p).toNat)
 case atStart=>exact ⟨0,by omega,rfl,hB1,hw1⟩
 case round=>
  clear hB1 hw1;obtain ⟨n,hn,rfl,hB,hw⟩:=hrel;by_cases hlt:n<10
  ·have q1:(n:Int)<10:=by omega
   have q3:(n:Int)+1<11:=by omega
   have q4:(0:Int)≤(n:Int)+1:=by omega
   have i1:IntKind.i64.wrap ((n:Int)+1)=(n:Int)+1:=IntWalk.i64_in _ (by omega);have i2:((n:Int)+1).toNat=n+1:=by omega
   have hC1:=hC.wr hw hcs hbs;have ht:=apz gc gs bx (acC K s n) wr (hlen.out n) hcs hbs hC1.ptr hC1.box hB;by_cases h9:n+1<10
   ·have hst:=Lib.hid (akU K s n h9)
    have q5:(n:Int)+1<10:=by omega
    generalize hL:acC K s n=L at *;clear hL;go_wp2_with fail;refine ht.mono ?_;rintro _ w2 ⟨rfl,hB2,hw2⟩;have hm:=ajS gs (subS L) w2 (acI L) hB2;go_wp2_with fail;refine hm.mono ?_;rintro _ w3 ⟨rfl,hB3,hw3⟩;have hC3:=hC1.wr (hw2.trans hw3) hcs hbs;have ha:=akR gs gc (1+(n+1)*16) (mixS (subS L)) (rowK K (n+1)) w3 (akS _) (HR.out (n+1) (by omega)) hcs hB3 (HROW.out w3 (n+1) (by omega) hC3);rw[aiT,hst.out] at ha;have HA:=Lib.hid ha;clear ha ht hm hB2 hB3;go_wp2_with fail;refine HA.out.mono ?_;rintro _ w4 ⟨rfl,hB4,hw4⟩;have hw5:=((hw.trans hw2).trans hw3).trans hw4;clear HA;go_wp2_with fail;go_roundw
    case rel=>exact ⟨n+1,by omega,by go_num,hB4,hw5⟩
    case measure=>simp[intOf];omega
   ·have hst:=Lib.hid (akV K s n h9)
    have q5:¬(n:Int)+1<10:=by omega
    generalize hL:acC K s n=L at *;clear hL;go_wp2_with fail;refine ht.mono ?_;rintro _ w2 ⟨rfl,hB2,hw2⟩;have hC3:=hC1.wr hw2 hcs hbs;have ha:=akR gs gc (1+(n+1)*16) (subS L) (rowK K (n+1)) w2 (acI _) (HR.out (n+1) (by omega)) hcs hB2 (HROW.out w2 (n+1) (by omega) hC3);rw[aiT,hst.out] at ha;have HA:=Lib.hid ha;clear ha ht hB2;go_wp2_with fail;refine HA.out.mono ?_;rintro _ w4 ⟨rfl,hB4,hw4⟩;have hw5:=(hw.trans hw2).trans hw4;clear HA;go_wp2_with fail;go_roundw
    case rel=>exact ⟨n+1,by omega,by go_num,hB4,hw5⟩
    case measure=>simp[intOf];omega
  ·obtain rfl:n=10:=by omega
   go_wp2_with fail;go_end0
   exact ⟨rfl,hB,hw⟩
end Go.Proofs.YthmhklmkgkfcpaaGreatDoor
