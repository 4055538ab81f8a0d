import Derived.Test.YthmhklmkgkfcpaaGreatDoorU8
import Derived.Test.YthmhklmkgkfcpaaGreatDoorU10
import Derived.Test.YthmhklmkgkfcpaaGreatDoorU11
import Derived.Test.YthmhklmkgkfcpaaGreatDoorU17
import Derived.WalkMore
set_option linter.unusedVariables false
set_option linter.unusedSimpArgs false
set_option maxHeartbeats 8000000
set_option maxRecDepth 100000
namespace Go.Proofs.YthmhklmkgkfcpaaGreatDoor
open Go.RowKit
theorem anV {j q i:Nat}(hj:j≤10)(hi:i≤j)(hq:q<2 ^ (10 - j)):2 ^ (j - i)*q+2 ^ (j - i) - 1<2 ^ (10 - i):=by
 have e:2 ^ (10 - i)=2 ^ (j - i)*2 ^ (10 - j):=by rw[← Nat.pow_add];congr 1;omega
 have h1:2 ^ (j - i)*(q+1)≤2 ^ (10 - i):=by rw[e];exact Nat.mul_le_mul_left _ hq
 rw[Nat.mul_add,Nat.mul_one] at h1;have:=aaC (j - i);omega
theorem down {j q:Nat}(hj:j≤10)(hq:q<2 ^ (10 - j))(f g:Nat→Nat)(hf:f=fun i=>nd i (2 ^ (j - i)*q))(hg:g=fun i=>nd i (2 ^ (j - i)*q+2 ^ (j - i) - 1)):
  (∀ i,i≤j→levV ((f i:Nat):Int)=(i:Int)∧lev (f i)=i∧levV ((g i:Nat):Int)=(i:Int)∧lev (g i)=i) ∧
  (∀ i,i+1≤j→chE ((f (i+1):Nat):Int)=0∧lefV ((f (i+1):Nat):Int)=((f i:Nat):Int)∧chE ((g (i+1):Nat):Int)=0∧rigV ((g (i+1):Nat):Int)=((g i:Nat):Int)) ∧
  f j=nd j q∧g j=nd j q∧((f 0:Nat):Int).tdiv 2=((2 ^ j*q:Nat):Int)∧((g 0:Nat):Int).tdiv 2=((2 ^ j*q+2 ^ j - 1:Nat):Int):=by
 subst hf hg;have hb:∀ i,i≤j→2 ^ (j - i)*q<2 ^ (10 - i)∧2 ^ (j - i)*q+2 ^ (j - i) - 1<2 ^ (10 - i):=fun i hi=>by
  have h1:=anV hj hi hq;have h2:=aaC (j - i);omega
 refine ⟨fun i hi=>?_,fun i hi=>?_,?_,?_,?_,?_⟩
 ·obtain ⟨h1,h2⟩:=hb i hi
  exact ⟨abF (by omega) h1,adJ _ _ (by omega),abF (by omega) h2,adJ _ _ (by omega)⟩
 ·obtain ⟨h1,h2⟩:=hb (i+1) hi
  obtain ⟨e1,e2,_⟩:=adC (j:=i) (q:=2 ^ (j - (i+1))*q) (by omega) h1;obtain ⟨d1,_,d3⟩:=adC (j:=i) (q:=2 ^ (j - (i+1))*q+2 ^ (j - (i+1)) - 1) (by omega) h2;have e:j - i=(j - (i+1))+1:=by omega
  have hp:=aaC (j - (i+1));refine ⟨e1,?_,d1,?_⟩
  ·rw[e2]
   simp only[];rw[e,aaj,Nat.mul_assoc]
  ·rw[d3]
   simp only[];rw[e,aaj,Nat.mul_assoc];congr 2
   omega
 ·simp
 ·simp
 ·simp only[Nat.sub_zero]
  rw[abK,Int.tdiv_eq_ediv_of_nonneg (by omega)];omega
 ·simp only[Nat.sub_zero]
  rw[abK,Int.tdiv_eq_ediv_of_nonneg (by omega)];omega
theorem aiv (j q:Nat)(w:World)(hj:j≤10)(hq:q<2 ^ (10 - j)):
  Calls Tryz.prog 79 #[.int .i64 ((nd j q:Nat):Int)] w fun e w'=>e=.returned (.tuple #[.int .i64 ((2 ^ j*q:Nat):Int),.int .i64 ((2 ^ j*q+2 ^ j - 1:Nat):Int)])∧w=w':=by
 obtain ⟨b0,b1⟩:=(aaH ((nd j q:Nat):Int)).2 ⟨j,q,rfl,hj,hq⟩;obtain ⟨f,hf⟩:∃ f:Nat→Nat,f=fun i=>nd i (2 ^ (j - i)*q):=⟨_,rfl⟩
 obtain ⟨g,hg⟩:∃ g:Nat→Nat,g=fun i=>nd i (2 ^ (j - i)*q+2 ^ (j - i) - 1):=⟨_,rfl⟩
 obtain ⟨d1,d2,d3,d4,d5,d6⟩:=down hj hq f g hf hg;have hl:2 ^ j*q+2 ^ j - 1<2 ^ (10 - 0):=by have:=anV hj (Nat.zero_le j) hq;simpa using this
 have D1:=Lib.hid d1;have D2:=Lib.hid d2;have HLV:Hid (∀ x,Calls Tryz.prog 82 #[.int .i64 x] w fun e w'=>e=.returned (.int .i64 (levV x))∧w=w'):=fun x=>adL x w
 have HLF:Hid (∀ x,Calls Tryz.prog 34 #[.int .i64 x] w fun e w'=>e=.returned (.tuple #[.int .i64 (lefV x),.int .i64 (chE x)])∧w=w'):=fun x=>ads x w
 have HRT:Hid (∀ x,Calls Tryz.prog 35 #[.int .i64 x] w fun e w'=>e=.returned (.tuple #[.int .i64 (rigV x),.int .i64 (chE x)])∧w=w'):=fun x=>acR x w
 have hlo:IntKind.i64.wrap ((2 ^ j*q:Nat):Int)=((2 ^ j*q:Nat):Int):=IntWalk.i64_in _ (by have:=aaC j;omega);have hhi:IntKind.i64.wrap ((2 ^ j*q+2 ^ j - 1:Nat):Int)=((2 ^ j*q+2 ^ j - 1:Nat):Int):=IntWalk.i64_in _ (by omega);have D5:=Lib.hid (And.intro d5 d6);have D3:=Lib.hid (And.intro d3 d4);generalize ((2 ^ j*q:Nat):Int)=LO at *;generalize ((2 ^ j*q+2 ^ j - 1:Nat):Int)=HI at *;generalize nd j q=X at *;clear d1 d2 d3 d4 d5 d6 hf hg hl hq;go_enter Tryz.func79,Tryz.ntmps79;go_wp2_with fail;go_loop [4] (fun a=>∃ i:Nat,i≤j∧a=.int .i64 ((f i:Nat):Int)) (fun a=>lev (intOf a).toNat)
 case atStart=>exact ⟨j,Nat.le_refl _,by rw[D3.out.1]⟩
 case round=>
  obtain ⟨i,hi,rfl⟩:=hrel;have HL1:=HLV.out ((f i:Nat):Int);rw[(D1.out i hi).1] at HL1;have HL2:=Lib.hid HL1;clear HL1;cases i with
  | succ i=>
   obtain ⟨c1,c2,_,_⟩:=D2.out i hi;have HF1:=HLF.out ((f (i+1):Nat):Int);rw[c1,c2] at HF1;have HF2:=Lib.hid HF1;have hlv:=Lib.hid (And.intro (D1.out (i+1) hi).2.1 (D1.out i (by omega)).2.1);have hp:0<((i+1:Nat):Int):=by omega
   generalize ((i+1:Nat):Int)=I at *;clear HF1 c1 c2 D1 D2 HLV HLF HRT D5 D3;go_wp2_with fail;refine HL2.out.mono ?_;rintro _ _ ⟨rfl,rfl⟩;go_wp2_with fail;refine HF2.out.mono ?_;rintro _ _ ⟨rfl,rfl⟩;go_wp2_with fail;go_round
   case rel=>exact ⟨i,by omega,rfl⟩
   case measure=>have:=hlv.out;simp[intOf];omega
  | zero=>
   have i1:=D5.out.1;go_wp2_with fail;refine HL2.out.mono ?_;rintro _ _ ⟨rfl,rfl⟩;clear HL2 hi HLF;go_wp2_with fail;go_loop [5] (fun b=>∃ i:Nat,i≤j∧b=.int .i64 ((g i:Nat):Int)) (fun b=>lev (intOf b).toNat)
   case atStart=>exact ⟨j,Nat.le_refl _,by rw[D3.out.2]⟩
   case round=>
    obtain ⟨i,hi,rfl⟩:=hrel;have HL1:=HLV.out ((g i:Nat):Int);rw[(D1.out i hi).2.2.1] at HL1;have HL2:=Lib.hid HL1;clear HL1;cases i with
    | succ i=>
     obtain ⟨_,_,c1,c2⟩:=D2.out i hi;have HF1:=HRT.out ((g (i+1):Nat):Int);rw[c1,c2] at HF1;have HF2:=Lib.hid HF1;have hlv:=Lib.hid (And.intro (D1.out (i+1) hi).2.2.2 (D1.out i (by omega)).2.2.2);have hp:0<((i+1:Nat):Int):=by omega
     generalize ((i+1:Nat):Int)=I at *;clear HF1 c1 c2 D1 D2 HLV HRT D5 D3;go_wp2_with fail;refine HL2.out.mono ?_;rintro _ _ ⟨rfl,rfl⟩;go_wp2_with fail;refine HF2.out.mono ?_;rintro _ _ ⟨rfl,rfl⟩;go_wp2_with fail;go_round
     case rel=>exact ⟨i,by omega,rfl⟩
     case measure=>have:=hlv.out;simp[intOf];omega
    | zero=>
     have i2:=D5.out.2;clear D2 D1 HLV HRT D3 D5;go_wp2_with fail;refine HL2.out.mono ?_;rintro _ _ ⟨rfl,rfl⟩;go_wp2_with fail;go_ret2;exact ⟨rfl,rfl⟩
theorem aiw (x:Int)(w:World):
  Calls Tryz.prog 79 #[.int .i64 x] w fun e w'=>e=.returned (.tuple #[.int .i64 (loV x),.int .i64 (hiV x)])∧w=w':=by
 by_cases h:okN x
 ·obtain ⟨j,q,rfl,hj,hq⟩:=(aaH x).1 h
  obtain ⟨e1,e2⟩:=am0 hj hq;rw[e1,e2];exact aiv j q w hj hq
 ·obtain ⟨e1,e2⟩:=aq4 h
  rw[e1,e2];unfold okN at h;by_cases h0:x<0
  ·clear h e1 e2
   go_enter Tryz.func79,Tryz.ntmps79;go_wp2_with fail;go_ret2;exact ⟨rfl,rfl⟩
  ·have h1:2046<x:=by omega
   clear h e1 e2;go_enter Tryz.func79,Tryz.ntmps79;go_wp2_with fail;go_ret2;exact ⟨rfl,rfl⟩
theorem akA {t:List Nod}(h:t.length≤100000):IntKind.i64.wrap ((t.length:Int)+1)=(t.length:Int)+1∧((t.length:Int)+1).tdiv 2=((lvs t:Nat):Int):=by
 refine ⟨IntWalk.i64_in _ (by omega),?_⟩;unfold lvs;rw[Int.tdiv_eq_ediv_of_nonneg (by omega)];omega
theorem aix {t:List Nod}{k:Nat}(h:k<lvs t):2*k<t.length:=by unfold lvs at h;omega
theorem aev {t:List Nod}(h:t.length≤100000):(lvs t:Int)≤100000:=by
 unfold lvs;omega
theorem ac7 (u:Value)(t:List Nod)(w:World)(hu:NL w u t)(hl:t.length≤100000):
  Calls Tryz.prog 31 #[u] w fun e w'=>e=.returned (.int .i64 ((lvs t:Nat):Int))∧w=w':=by
 obtain ⟨a,c,rfl,h1,h2⟩:=hu.shape;obtain ⟨i1,i2⟩:=akA (t:=t) hl;have i3:IntKind.i64.wrap ((lvs t:Nat):Int)=((lvs t:Nat):Int):=IntWalk.i64_in _ (by have:=aev (t:=t) hl;omega);go_enter Tryz.func31,Tryz.ntmps31;go_wp2_with fail;go_ret;exact ⟨rfl,rfl⟩
theorem aew (name:Int)(v:Value)(pub:List UInt8)(w:World)(hv:Rd w v pub):
  Calls Tryz.prog 84 #[.int .i64 name,v] w fun e w'=>e=.returned (.bool (decide (mayP name pub)))∧w=w':=by
 obtain ⟨a,c,rfl,h1,h2⟩:=hv.shape;by_cases n0:0≤name
 ·by_cases n1:name≤65535
  ·by_cases n2:pub.length=32
   ·have e:decide (mayP name pub)=true:=decide_eq_true ⟨n0,n1,n2⟩
    rw[e];rw[n2] at h1 ⊢;clear e hv n2;go_enter Tryz.func84,Tryz.ntmps84;go_wp2_with fail;go_ret;exact ⟨rfl,rfl⟩
   ·have e:decide (mayP name pub)=false:=decide_eq_false fun h=>n2 h.2.2
    have hb2:((pub.length:Int)==32)=false:=beq_eq_false_iff_ne.2 (by omega);have hb3:¬(pub.length:Int)=32:=by omega
    rw[e];clear e hv n2;go_enter Tryz.func84,Tryz.ntmps84;go_wp2_with fail;go_ret;exact ⟨rfl,rfl⟩
  ·have e:decide (mayP name pub)=false:=decide_eq_false fun h=>n1 h.2.1
   rw[e];clear e hv;go_enter Tryz.func84,Tryz.ntmps84;go_wp2_with fail;go_ret;exact ⟨rfl,rfl⟩
 ·have e:decide (mayP name pub)=false:=decide_eq_false fun h=>n0 h.1
  rw[e];clear e hv;go_enter Tryz.func84,Tryz.ntmps84;go_wp2_with fail;go_ret;exact ⟨rfl,rfl⟩
theorem amb {t:List Nod}{name:Int}{k:Nat}(hk:k<lvs t)(h:(ats t (2*k)).kind=1)(hn:(ats t (2*k)).name=name)(hpre:∀ j,j<k→¬((ats t (2*j)).kind=1∧(ats t (2*j)).name=name)):
  alQ t name=(k:Int)∧agm t name=true:=by
 have e:ap5 t name=k:=adE (by omega) (fun _=>decide_eq_true ⟨h,hn⟩) (fun j hj=>decide_eq_false (hpre j hj));have e2:agm t name=true:=by unfold agm;rw[e];exact decide_eq_true hk
 exact ⟨by unfold alQ;rw[e2,e];rfl,e2⟩
theorem apc {t:List Nod}{name:Int}(h:∀ j,j<lvs t→¬((ats t (2*j)).kind=1∧(ats t (2*j)).name=name)):alQ t name=0∧agm t name=false:=by
 have e:=ane h;exact ⟨by unfold alQ;rw[e];rfl,e⟩
theorem akB (u:Value)(t:List Nod)(name:Int)(w:World)(hu:NL w u t)(hl:t.length≤100000):
  Calls Tryz.prog 85 #[u,.int .i64 name] w fun e w'=>e=.returned (.tuple #[.int .i64 (alQ t name),.bool (agm t name)])∧w=w':=by
 have HL:=Lib.hid (ac7 u t w hu hl);obtain ⟨a,c,rfl,p1,s1⟩:=hu.shape;have hlm:=aev (t:=t) hl;have HU:=Lib.hid hu;have HY:=Lib.hid (fun k hk h hn hpre=>amb (t:=t) (name:=name) (k:=k) hk h hn hpre);have HN:=Lib.hid (fun h=>apc (t:=t) (name:=name) h);have H2:=Lib.hid (fun k h=>aix (t:=t) (k:=k) h);generalize alQ t name=FV at *;generalize agm t name=FB at *;generalize lvs t=L at *;obtain ⟨N,hN⟩:∃ N,t.length=N:=⟨_,rfl⟩;rw[hN] at HU p1 H2 HL hl ⊢;clear hu hN;go_enter Tryz.func85,Tryz.ntmps85;go_wp2_with fail;go_loop [6] (fun i=>∃ k:Nat,k≤L∧i=.int .i64 (k:Int)∧(∀ j,j<k→¬((ats t (2*j)).kind=1∧(ats t (2*j)).name=name))) (fun i=>(L - (intOf i).toNat))
 case atStart=>exact ⟨0,Nat.zero_le _,rfl,fun t h=>by omega⟩
 case round=>
  obtain ⟨k,hk,rfl,hpre⟩:=hrel;by_cases hlt:k<L
  ·have hk2:=H2.out k hlt
   obtain ⟨b,off,rfl,hb,hc⟩:=HU.out.at (2*k) hk2;obtain ⟨p,q,h,hn⟩:=hc (2*k) hk2;have c1:=hn.kind;have c2:=hn.name;have HY2:=HY.out k hlt;have HPRE:Hid (¬((ats t (2*k)).kind=1∧(ats t (2*k)).name=name)→∀ j,j<k+1→¬((ats t (2*j)).kind=1∧(ats t (2*j)).name=name)):=fun he j hj=>by
    rcases Nat.lt_or_eq_of_le (Nat.lt_succ_iff.1 hj) with h3 | h3
    ·exact hpre j h3
    ·rw[h3];exact he
   have HPR:=Lib.hid hpre;have i1:IntKind.i64.wrap ((k:Int)+1)=(k:Int)+1:=IntWalk.i64_in _ (by omega);have i2:IntKind.i64.wrap (2*(k:Int))=((2*k:Nat):Int):=by rw[IntWalk.i64_in _ (by omega)];omega
   have i3:((2*k:Nat):Int)<(N:Int):=by omega
   clear hc hn HN hpre HY hk2 hb;generalize (ats t (2*k)).kind=X at *;generalize (ats t (2*k)).name=Y at *;generalize 2*k=K2 at *;by_cases h1:X=1
   ·by_cases h2:Y=name
    ·obtain ⟨e1,e2⟩:=HY2 h1 h2 HPR.out
     have HB:=Lib.hid (And.intro e1 e2);subst h1;subst h2;clear HY2 HPRE HPR e1 e2;go_wp2_with fail;refine HL.out.mono ?_;rintro _ _ ⟨rfl,rfl⟩;go_wp2_with fail;go_ret2;exact ⟨by rw[HB.out.1,HB.out.2] <;> rfl,rfl⟩
    ·have HP:=Lib.hid (HPRE.out fun h=>h2 h.2)
     have hne2:(Y==name)=false:=beq_eq_false_iff_ne.2 h2;subst h1;clear HY2 HPRE HPR;go_wp2_with fail;refine HL.out.mono ?_;rintro _ _ ⟨rfl,rfl⟩;go_wp2_with fail;go_round
     case rel=>exact ⟨k+1,by omega,by go_num,HP.out⟩
     case measure=>simp[intOf];omega
   ·have HP:=Lib.hid (HPRE.out fun h=>h1 h.1)
    have hne2:(X==1)=false:=beq_eq_false_iff_ne.2 h1;clear HY2 HPRE HPR;go_wp2_with fail;refine HL.out.mono ?_;rintro _ _ ⟨rfl,rfl⟩;go_wp2_with fail;go_round
    case rel=>exact ⟨k+1,by omega,by go_num,HP.out⟩
    case measure=>simp[intOf];omega
  ·obtain rfl:k=L:=by omega
   obtain ⟨e1,e2⟩:=HN.out hpre;have HB:=Lib.hid (And.intro e1 e2);clear HN hpre HY H2 e1 e2;go_wp2_with fail;refine HL.out.mono ?_;rintro _ _ ⟨rfl,rfl⟩;go_wp2_with fail;go_ret2;exact ⟨by rw[HB.out.1,HB.out.2] <;> rfl,rfl⟩
theorem Tryz.infoNode:(Tryz.prog.info? 81).map (fun i=>(i.zero,i.size,i.bytes))=some (some (.agg #[.int .i64 0,.int .i64 0,.slice none 0 0,.slice none 0 0,.slice none 0 0]),5,88):=by kernel_rfl
theorem anW:S5 Tryz.prog 22 81:=S5.mk' Tryz.underlying22 Tryz.infoNode (by decide) rfl
def newE (name:Int)(pub:List UInt8):Int:=if mayP name pub then 0 else 1
def newV (name:Int)(pub:List UInt8):List Nod:=if mayP name pub then [aag name pub] else []
theorem NL.lit1 (w:World)(e:TypeId)(n:Nod)(p u h:Value)(H:NIn w n p u h):NL (w.alloc (.cells #[.int .i64 n.kind,.int .i64 n.name,p,u,h] e)) (.slice (some ⟨w.heap.size,0,none⟩) 1 1) [n]:=by
 refine ⟨_,1,rfl,Nat.le_refl _,by unfold maxLen;omega,fun h=>(by cases h),fun _=>⟨w.heap.size,0,rfl,by simp,fun i hi=>?_⟩⟩;have:i=0:=by simpa using hi
 subst this;refine ⟨p,u,h,fun j v hj=>?_,H.kp ((Kp.refl _).alloc _)⟩;rw[cell_of_row _ _ _ _ _ _ (heap_alloc_new w _)];simp only[Nat.zero_mul,Nat.zero_add];exact (show (nodC n p u h).toArray[j]?=some v by rw[List.getElem?_toArray];exact hj)
theorem akC (name:Int)(v:Value)(pub:List UInt8)(w:World)(hv:Rd w v pub):
  Calls Tryz.prog 37 #[.int .i64 name,v] w fun e w'=>(∃ r,e=.returned (.tuple #[r,.int .i64 (newE name pub)])∧NL w' r (newV name pub))∧Kp w w':=by
 have HM:=Lib.hid (aew name v pub w hv);by_cases h:mayP name pub
 ·rw[decide_eq_true h] at HM
  rw[show newE name pub=0 from if_pos h,show newV name pub=[aag name pub] from if_pos h];have HN:=Lib.hid (NL.lit1 w 81 (aag name pub) v (.slice none 0 0) (.slice none 0 0) ⟨hv,RI.nil w,aaP w⟩);obtain ⟨a,c,rfl,h1,h2⟩:=hv.shape;go_enter Tryz.func37,Tryz.ntmps37;go_wp2_with fail;refine HM.out.mono ?_;rintro _ _ ⟨rfl,rfl⟩;go_wp2_with fail;go_ret2;exact ⟨⟨_,rfl,HN.out⟩,(Kp.refl _).alloc _⟩
 ·rw[decide_eq_false h] at HM
  rw[show newE name pub=1 from if_neg h,show newV name pub=[] from if_neg h];clear h;go_enter Tryz.func37,Tryz.ntmps37;go_wp2_with fail;refine HM.out.mono ?_;rintro _ _ ⟨rfl,rfl⟩;go_wp2_with fail;go_ret2;exact ⟨⟨_,rfl,NL.nil _⟩,Kp.refl _⟩
theorem aqD {t:List Nod}{x:Nat}(hk:(ats t x).kind=0):okP t x↔(ats t x).name=0∧(ats t x).pub.length=0∧(ats t x).un.length=0∧(ats t x).hash.length=0:=by
 constructor
 ·intro h
  rw[alP h hk];exact ⟨rfl,rfl,rfl,rfl⟩
 ·rintro ⟨h1,h2,h3,h4⟩
  refine .inl ((Nod.eq_iff _ _).2 ⟨hk,h1,List.eq_nil_of_length_eq_zero h2,List.eq_nil_of_length_eq_zero h3,List.eq_nil_of_length_eq_zero h4⟩)
theorem apd {t:List Nod}{x:Nat}(hk:(ats t x).kind≠0):okP t x↔mayP (ats t x).name (ats t x).pub∧((ats t x).hash.length=0∨(ats t x).hash.length=32)∧(ats t x).kind=1+(x:Int) % 2 ∧
  ((ats t x).kind=1→(ats t x).un.length=0)∧((ats t x).kind≠1→unP t (loV x) (hiV x) (ats t x).un∧(ats t x).name=0):=by
 constructor
 ·rintro (h | ⟨h1,h2,h3,h4,h5⟩)
  ·rw[h] at hk;exact absurd rfl hk
  ·exact ⟨h2,h3,h1,fun h=>by rw[h4 h];rfl,fun h=>(h5 (by omega)).symm⟩
 ·rintro ⟨h2,h3,h1,h4,h5⟩
  exact .inr ⟨h1,h2,h3,fun h=>List.eq_nil_of_length_eq_zero (h4 h),fun h=>(h5 (by omega)).symm⟩
def aav (e:Ending)(p:Prop):Prop:=∃ b,e=.returned (.bool b)∧(b=true↔p)
theorem ajG {a b:Nat}(h:a≠b):((a:Int)==(b:Int))=false:=beq_eq_false_iff_ne.2 (by omega)
theorem ajH (u:Value)(t:List Nod)(x:Nat)(w:World)(hu:NL w u t)(hx:x<t.length)(hk:(ats t x).kind=0):
  Calls Tryz.prog 76 #[u,.int .i64 (x:Int)] w fun e w'=>aav e (okP t x)∧Kp w w':=by
 obtain ⟨a,c,rfl,p1,s1⟩:=hu.shape;unfold maxLen at s1;obtain ⟨b,off,rfl,hb,hc⟩:=hu.at x hx;obtain ⟨p,q,h,hn⟩:=hc x hx;have c0:=hn.kind;have c1:=hn.name;have c2:=hn.pubC;have c3:=hn.unC;have c4:=hn.hashC;have HO:=aqD hk;obtain ⟨ap,cp,rfl,_,_⟩:=hn.2.pub.shape;obtain ⟨aq,cq,rfl,_,_⟩:=hn.2.un.shape;obtain ⟨ah,ch,rfl,_,_⟩:=hn.2.hash.shape;have i3:(x:Int)<(t.length:Int):=by omega
 obtain ⟨N,hN⟩:∃ N,t.length=N:=⟨_,rfl⟩;rw[hN] at i3 p1 ⊢;generalize (ats t x)=n at *;obtain ⟨kind,name,pub,un,hash⟩:=n;simp only at hk HO c0 c1 c2 c3 c4 ⊢;subst hk;generalize pub.length=P at *;generalize un.length=U at *;generalize hash.length=H at *;clear hn hc hu hN hb hx;by_cases h1:name=0
 ·subst h1
  by_cases h2:P=0
  ·subst h2
   by_cases h3:U=0
   ·subst h3
    by_cases h4:H=0
    ·subst h4
     have HB:=Lib.hid (HO.2 ⟨rfl,rfl,rfl,rfl⟩);clear HO;go_enter Tryz.func76,Tryz.ntmps76;go_wp2_with fail;go_ret;exact ⟨⟨true,rfl,fun _=>HB.out,fun _=>rfl⟩,(Kp.refl _).alloc _⟩
    ·have HB:=Lib.hid (fun e=>h4 (HO.1 e).2.2.2)
     have e4:=ajG h4;have e5:¬(H:Int)=0:=by omega
     clear HO;go_enter Tryz.func76,Tryz.ntmps76;go_wp2_with fail;go_ret;exact ⟨⟨_,rfl,fun h=>absurd (beq_iff_eq.1 h) e5,fun h=>absurd h HB.out⟩,(Kp.refl _).alloc _⟩
   ·have HB:=Lib.hid (fun e=>h3 (HO.1 e).2.2.1)
    have e4:=ajG h3;have e5:¬(U:Int)=0:=by omega
    clear HO;go_enter Tryz.func76,Tryz.ntmps76;go_wp2_with fail;go_ret;exact ⟨⟨false,rfl,fun h=>(by cases h),fun h=>absurd h HB.out⟩,(Kp.refl _).alloc _⟩
  ·have HB:=Lib.hid (fun e=>h2 (HO.1 e).2.1)
   have e4:=ajG h2;have e5:¬(P:Int)=0:=by omega
   clear HO;go_enter Tryz.func76,Tryz.ntmps76;go_wp2_with fail;go_ret;exact ⟨⟨false,rfl,fun h=>(by cases h),fun h=>absurd h HB.out⟩,(Kp.refl _).alloc _⟩
 ·have HB:=Lib.hid (fun e=>h1 (HO.1 e).1)
  have e4:(name==0)=false:=beq_eq_false_iff_ne.2 h1;clear HO;go_enter Tryz.func76,Tryz.ntmps76;go_wp2_with fail;go_ret;exact ⟨⟨false,rfl,fun h=>(by cases h),fun h=>absurd h HB.out⟩,(Kp.refl _).alloc _⟩
def ahead (lo:Int)(l:List Int)(k:Nat):Int:=if k=0 then lo - 1 else l.getD (k - 1) 0
theorem ars (t:List Nod)(lo hi:Int)(l:List Int):unP t lo hi l↔∀ k,k<l.length→ahead lo l k<l.getD k 0∧l.getD k 0≤hi∧(ats t (2*(l.getD k 0).toNat)).kind=1:=by
 have hg:∀ k (h:k<l.length),l.getD k 0=l[k]:=fun k h=>by rw[List.getD_eq_getElem?_getD,List.getElem?_eq_getElem h];rfl
 constructor
 ·rintro ⟨h1,h2⟩ k hk
  rw[hg k hk];obtain ⟨a1,a2,a3⟩:=h2 l[k] (List.getElem_mem hk);refine ⟨?_,a2,a3⟩;unfold ahead;by_cases h0:k=0
  ·rw[if_pos h0];omega
  ·rw[if_neg h0,hg _ (by omega)]
   exact (List.pairwise_iff_getElem.1 h1) (k - 1) k (by omega) hk (by omega)
 ·intro h
  have hlt:∀ d i j (hi:i<l.length) (hj:j<l.length),j=i+d+1→l[i]<l[j]:=by
   intro d;induction d with
   | zero=>
    intro i j hi hj e;obtain ⟨a1,_⟩:=h j hj;unfold ahead at a1;rw[if_neg (by omega),hg _ (by omega),hg _ hj] at a1;have:j - 1=i:=by omega
    subst this;exact a1
   | succ d ih=>
    intro i j hi hj e;obtain ⟨a1,_⟩:=h j hj;unfold ahead at a1;rw[if_neg (by omega),hg _ (by omega),hg _ hj] at a1;have:=ih i (j - 1) hi (by omega) (by omega);omega
  refine ⟨List.pairwise_iff_getElem.2 fun i j hi hj hij=>hlt (j - i - 1) i j hi hj (by omega),fun v hv=>?_⟩;obtain ⟨k,hk,rfl⟩:=List.getElem_of_mem hv;obtain ⟨a1,a2,a3⟩:=h k hk;rw[hg k hk] at a1 a2 a3;refine ⟨?_,a2,a3⟩;obtain ⟨b1,_⟩:=h 0 (by omega);unfold ahead at b1;rw[if_pos rfl,hg 0 (by omega)] at b1;by_cases h0:k=0
  ·subst h0;omega
  ·have:=hlt (k - 1) 0 k (by omega) hk (by omega)
   omega
theorem anX {K x n:Nat}(hK:K≤10)(hn:n=2 ^ (K+1) - 1)(hx:x<n):0≤loV x∧loV x≤hiV x∧2*hiV x<(n:Int)∧hiV x<1024:=by
 subst hn;obtain ⟨j,q,rfl,hj,hq⟩:=ahh K x hx;obtain ⟨_,s2,s3⟩:=aa4 hK hj hq;obtain ⟨l1,l2⟩:=am0 s2 s3;rw[l1,l2];have e1:2 ^ K=2 ^ j*2 ^ (K - j):=by rw[← Nat.pow_add];congr 1;omega
 have e2:2 ^ j*(q+1)≤2 ^ K:=by rw[e1];exact Nat.mul_le_mul_left _ hq
 rw[Nat.mul_add,Nat.mul_one] at e2;have:=aaC j;have:=aaj K;have:=acc hK;omega
theorem aqE (x:Nat):((x:Int)).tmod 2=(x:Int) % 2:=Int.tmod_eq_emod_of_nonneg (by omega)
theorem aiy (u:Value)(t:List Nod)(x K:Nat)(w:World)(hu:NL w u t)(hK:K≤10)(hl:t.length=2 ^ (K+1) - 1)(hx:x<t.length)(hk:(ats t x).kind≠0):
  Calls Tryz.prog 76 #[u,.int .i64 (x:Int)] w fun e w'=>aav e (okP t x)∧Kp w w':=by
 obtain ⟨a,c,rfl,p1,s1⟩:=hu.shape;unfold maxLen at s1;have HU:=Lib.hid hu;obtain ⟨b,off,rfl,hb,hc⟩:=hu.at x hx;obtain ⟨p,q,h,hn⟩:=hc x hx;have c0:=hn.kind;have c1:=hn.name;have c2:=hn.pubC;have c3:=hn.unC;have c4:=hn.hashC;have HO:=apd hk;obtain ⟨l1,l2,l3,l4⟩:=anX hK hl hx;have HLV:=Lib.hid (fun W=>aiw (x:Int) W);have HUN:=Lib.hid (ars t (loV x) (hiV x) (ats t x).un);have HM:Hid (∀ W,Kp w W→Calls Tryz.prog 84 #[.int .i64 (ats t x).name,p] W fun e w'=>e=.returned (.bool (decide (mayP (ats t x).name (ats t x).pub)))∧W=w'):=fun W hW=>aew _ _ _ W (hn.2.pub.kp hW)
 have HQ:=Lib.hid hn.2.un;obtain ⟨ap,cp,rfl,_,_⟩:=hn.2.pub.shape;obtain ⟨aq,cq,rfl,u1,u2⟩:=hn.2.un.shape;obtain ⟨ah,ch,rfl,_,_⟩:=hn.2.hash.shape;unfold maxLen at u2;have i3:(x:Int)<(t.length:Int):=by omega
 have tm:=aqE x;have tw:IntKind.i64.wrap (1+(x:Int) % 2)=1+(x:Int) % 2:=IntWalk.i64_in _ (by omega);have tw2:IntKind.i64.wrap ((x:Int) % 2)=(x:Int) % 2:=IntWalk.i64_in _ (by omega);obtain ⟨N,hN⟩:∃ N,t.length=N:=⟨_,rfl⟩;rw[hN] at i3 p1 l3 HU ⊢;generalize loV (x:Int)=LO at *;generalize hiV (x:Int)=HI at *;have lw:IntKind.i64.wrap (LO - 1)=LO - 1:=IntWalk.i64_in _ (by omega);generalize unP t LO HI (ats t x).un=UP at *;generalize okP t x=OKP at *;generalize (ats t x)=n at *;obtain ⟨kind,name,pub,un,hash⟩:=n;simp only at hk HO c0 c1 c2 c3 c4 HUN HM HQ ⊢;generalize pub.length=P at *;generalize hash.length=H at *;clear hn hc hu hN hb hx hl hK;have hk0:(kind==0)=false:=beq_eq_false_iff_ne.2 hk;have HX:(x:Int) % 2=0∨(x:Int) % 2=1:=by omega
 generalize (x:Int) % 2=X2 at *;by_cases m:mayP name pub
 ·rw[decide_eq_true m] at HM
  have HH:H=0∨H=32∨(H≠0∧H≠32):=by omega
  rcases HH with rfl | rfl | ⟨hh1,hh2⟩
  ·rcases HX with rfl | rfl
   ·by_cases hk1:kind=1
    ·subst hk1
     have u1':un.length≤cq:=u1;have HB:Hid (OKP↔un.length=0):=⟨fun e=>(HO.1 e).2.2.2.1 rfl,fun e=>HO.2 ⟨m,.inl rfl,by omega,fun _=>e,fun h=>absurd rfl h⟩⟩;obtain ⟨U,hU⟩:∃ U,un.length=U:=⟨_,rfl⟩;rw[hU] at c3 HB u1';clear HO HUN m HLV hU HQ u1;go_enter Tryz.func76,Tryz.ntmps76;go_wp2_with fail;refine (HM.out _ ((Kp.refl _).alloc _)).mono ?_;rintro _ _ ⟨rfl,rfl⟩;go_wp2_with fail;go_ret;exact ⟨⟨_,rfl,fun h=>HB.out.2 (by have:=beq_iff_eq.1 h;omega),fun h=>beq_iff_eq.2 (by have:=HB.out.1 h;omega)⟩,(Kp.refl _).alloc _⟩
    ·have hkb:(kind==1)=false:=beq_eq_false_iff_ne.2 hk1
     have HB:=Lib.hid (fun e=>hk1 (by have:=(HO.1 e).2.2.1;omega));clear HO HUN m HLV;go_enter Tryz.func76,Tryz.ntmps76;go_wp2_with fail;refine (HM.out _ ((Kp.refl _).alloc _)).mono ?_;rintro _ _ ⟨rfl,rfl⟩;go_wp2_with fail;go_ret;exact ⟨⟨false,rfl,fun h=>(by cases h),fun h=>absurd h HB.out⟩,(Kp.refl _).alloc _⟩
   ·by_cases hk1:kind=2
    ·subst hk1
     have HY:Hid ((∀ k,k<un.length→ahead LO un k<un.getD k 0∧un.getD k 0≤HI∧(ats t (2*(un.getD k 0).toNat)).kind=1)→(OKP↔name=0)):=fun h=>⟨fun e=>((HO.1 e).2.2.2.2 (by decide)).2,fun e=>HO.2 ⟨m,.inl rfl,by omega,fun h=>absurd h (by decide),fun _=>⟨HUN.out.2 h,e⟩⟩⟩
     have HNO:Hid ((¬∀ k,k<un.length→ahead LO un k<un.getD k 0∧un.getD k 0≤HI∧(ats t (2*(un.getD k 0).toNat)).kind=1)→¬OKP):=fun h e=>h (HUN.out.1 ((HO.1 e).2.2.2.2 (by decide)).1)
     have H0:Hid (ahead LO un 0=LO - 1):=if_pos rfl;have HS:Hid (∀ k,ahead LO un (k+1)=un.getD k 0):=fun k=>by
      unfold ahead;rw[if_neg (by omega),Nat.add_sub_cancel]
     obtain ⟨U,hU⟩:∃ U,un.length=U:=⟨_,rfl⟩;rw[hU] at c3 HQ HY HNO u1;have hU2:U≤cq:=u1;clear HO HUN m hU u1;go_enter Tryz.func76,Tryz.ntmps76;go_wp2_with fail;refine (HM.out _ ((Kp.refl _).alloc _)).mono ?_;rintro _ _ ⟨rfl,rfl⟩;go_wp2_with fail;refine (HLV.out _).mono ?_;rintro _ _ ⟨rfl,rfl⟩;clear HLV HM;have KK:=Lib.hid ((Kp.refl w).alloc (.cells #[.int .i64 2,.int .i64 name,.slice ap P cp,.slice aq U cq,.slice ah 0 ch] 81));have HQ2:=Lib.hid (HQ.out.kp KK.out);have HU2:=Lib.hid (HU.out.kp KK.out);clear HQ HU;go_wp2_with fail;go_loop [9,10] (fun l i=>∃ k:Nat,k≤U∧i=.int .i64 (k:Int)∧l=.int .i64 (ahead LO un k)∧-1≤ahead LO un k∧(∀ j,j<k→ahead LO un j<un.getD j 0∧un.getD j 0≤HI∧(ats t (2*(un.getD j 0).toNat)).kind=1)) (fun _ i=>(U - (intOf i).toNat))
     case atStart=>exact ⟨0,Nat.zero_le _,rfl,by rw[H0.out],by rw[H0.out];omega,fun j h=>by omega⟩
     case round=>
      obtain ⟨k,hk,rfl,rfl,hge,hpre⟩:=hrel;by_cases hlt:k<U
      ·obtain ⟨g1,o1,rfl,_,hc1⟩:=HQ2.out.at k hlt
       have d1:=hc1 k hlt;have HS2:=HS.out k;have i1:IntKind.i64.wrap ((k:Int)+1)=(k:Int)+1:=IntWalk.i64_in _ (by omega);have HPRE:Hid ((ahead LO un k<un.getD k 0∧un.getD k 0≤HI∧(ats t (2*(un.getD k 0).toNat)).kind=1)→∀ j,j<k+1→ahead LO un j<un.getD j 0∧un.getD j 0≤HI∧(ats t (2*(un.getD j 0).toNat)).kind=1):=fun he j hj=>by
        rcases Nat.lt_or_eq_of_le (Nat.lt_succ_iff.1 hj) with h3 | h3
        ·exact hpre j h3
        ·rw[h3];exact he
       have HNO2:Hid (¬(ahead LO un k<un.getD k 0∧un.getD k 0≤HI∧(ats t (2*(un.getD k 0).toNat)).kind=1)→¬OKP):=fun h=>HNO.out fun h2=>h (h2 k hlt)
       clear hc1 hpre HNO HY H0 HS;generalize ahead LO un k=A at *;generalize un.getD k 0=V at *;by_cases g1:A<V
       ·by_cases g2:V≤HI
        ·obtain ⟨v,rfl⟩:=Int.eq_ofNat_of_zero_le (show 0≤V by omega)
         rw[Int.toNat_natCast] at HPRE HNO2;obtain ⟨b2,off2,e2,_,hc2⟩:=HU2.out.at (2*v) (by omega);cases e2;obtain ⟨p2,q2,h2,hn2⟩:=hc2 (2*v) (by omega);have d2:=hn2.kind;have i4:IntKind.i64.wrap (2*(v:Int))=((2*v:Nat):Int):=by rw[IntWalk.i64_in _ (by omega)];omega
         have i5:((2*v:Nat):Int)<(N:Int):=by omega
         have g1b:¬(v:Int)≤A:=by omega
         have g2b:¬HI<(v:Int):=by omega
         clear hc2 hn2;generalize (ats t (2*v)).kind=Z at *;generalize 2*v=V2 at *;by_cases g3:Z=1
         ·have HP:=Lib.hid (HPRE.out ⟨g1,g2,g3⟩)
          subst g3;have H22:=Lib.hid HS2;clear HPRE HNO2 HS2;go_wp2_with fail;go_round
          case rel=>exact ⟨k+1,by omega,by go_num,by rw[H22.out],by rw[H22.out];omega,HP.out⟩
          case measure=>simp[intOf];omega
         ·have HB:=Lib.hid (HNO2.out fun h=>g3 h.2.2)
          have hne2:(Z==1)=false:=beq_eq_false_iff_ne.2 g3;clear HPRE HNO2 HS2;go_wp2_with fail;go_ret;exact ⟨⟨false,rfl,fun h=>(by cases h),fun h=>absurd h HB.out⟩,KK.out⟩
        ·have HB:=Lib.hid (HNO2.out fun h=>g2 h.2.1)
         have g1b:¬V≤A:=by omega
         have g2b:HI<V:=by omega
         clear HPRE HNO2 HS2;go_wp2_with fail;go_ret;exact ⟨⟨false,rfl,fun h=>(by cases h),fun h=>absurd h HB.out⟩,KK.out⟩
       ·have HB:=Lib.hid (HNO2.out fun h=>g1 h.1)
        have g1b:V≤A:=by omega
        clear HPRE HNO2 HS2;go_wp2_with fail;go_ret;exact ⟨⟨false,rfl,fun h=>(by cases h),fun h=>absurd h HB.out⟩,KK.out⟩
      ·obtain rfl:k=U:=by omega
       have HB:=Lib.hid (HY.out hpre);clear HY HNO hpre HS H0;go_wp2_with fail;go_ret;exact ⟨⟨_,rfl,fun h=>HB.out.2 (beq_iff_eq.1 h),fun h=>beq_iff_eq.2 (HB.out.1 h)⟩,KK.out⟩
    ·have hkb:(kind==2)=false:=beq_eq_false_iff_ne.2 hk1
     have HB:=Lib.hid (fun e=>hk1 (by have:=(HO.1 e).2.2.1;omega));clear HO HUN m HLV;go_enter Tryz.func76,Tryz.ntmps76;go_wp2_with fail;refine (HM.out _ ((Kp.refl _).alloc _)).mono ?_;rintro _ _ ⟨rfl,rfl⟩;go_wp2_with fail;go_ret;exact ⟨⟨false,rfl,fun h=>(by cases h),fun h=>absurd h HB.out⟩,(Kp.refl _).alloc _⟩
  ·rcases HX with rfl | rfl
   ·by_cases hk1:kind=1
    ·subst hk1
     have u1':un.length≤cq:=u1;have HB:Hid (OKP↔un.length=0):=⟨fun e=>(HO.1 e).2.2.2.1 rfl,fun e=>HO.2 ⟨m,.inr rfl,by omega,fun _=>e,fun h=>absurd rfl h⟩⟩;obtain ⟨U,hU⟩:∃ U,un.length=U:=⟨_,rfl⟩;rw[hU] at c3 HB u1';clear HO HUN m HLV hU HQ u1;go_enter Tryz.func76,Tryz.ntmps76;go_wp2_with fail;refine (HM.out _ ((Kp.refl _).alloc _)).mono ?_;rintro _ _ ⟨rfl,rfl⟩;go_wp2_with fail;go_ret;exact ⟨⟨_,rfl,fun h=>HB.out.2 (by have:=beq_iff_eq.1 h;omega),fun h=>beq_iff_eq.2 (by have:=HB.out.1 h;omega)⟩,(Kp.refl _).alloc _⟩
    ·have hkb:(kind==1)=false:=beq_eq_false_iff_ne.2 hk1
     have HB:=Lib.hid (fun e=>hk1 (by have:=(HO.1 e).2.2.1;omega));clear HO HUN m HLV;go_enter Tryz.func76,Tryz.ntmps76;go_wp2_with fail;refine (HM.out _ ((Kp.refl _).alloc _)).mono ?_;rintro _ _ ⟨rfl,rfl⟩;go_wp2_with fail;go_ret;exact ⟨⟨false,rfl,fun h=>(by cases h),fun h=>absurd h HB.out⟩,(Kp.refl _).alloc _⟩
   ·by_cases hk1:kind=2
    ·subst hk1
     have HY:Hid ((∀ k,k<un.length→ahead LO un k<un.getD k 0∧un.getD k 0≤HI∧(ats t (2*(un.getD k 0).toNat)).kind=1)→(OKP↔name=0)):=fun h=>⟨fun e=>((HO.1 e).2.2.2.2 (by decide)).2,fun e=>HO.2 ⟨m,.inr rfl,by omega,fun h=>absurd h (by decide),fun _=>⟨HUN.out.2 h,e⟩⟩⟩
     have HNO:Hid ((¬∀ k,k<un.length→ahead LO un k<un.getD k 0∧un.getD k 0≤HI∧(ats t (2*(un.getD k 0).toNat)).kind=1)→¬OKP):=fun h e=>h (HUN.out.1 ((HO.1 e).2.2.2.2 (by decide)).1)
     have H0:Hid (ahead LO un 0=LO - 1):=if_pos rfl;have HS:Hid (∀ k,ahead LO un (k+1)=un.getD k 0):=fun k=>by
      unfold ahead;rw[if_neg (by omega),Nat.add_sub_cancel]
     obtain ⟨U,hU⟩:∃ U,un.length=U:=⟨_,rfl⟩;rw[hU] at c3 HQ HY HNO u1;have hU2:U≤cq:=u1;clear HO HUN m hU u1;go_enter Tryz.func76,Tryz.ntmps76;go_wp2_with fail;refine (HM.out _ ((Kp.refl _).alloc _)).mono ?_;rintro _ _ ⟨rfl,rfl⟩;go_wp2_with fail;refine (HLV.out _).mono ?_;rintro _ _ ⟨rfl,rfl⟩;clear HLV HM;have KK:=Lib.hid ((Kp.refl w).alloc (.cells #[.int .i64 2,.int .i64 name,.slice ap P cp,.slice aq U cq,.slice ah 32 ch] 81));have HQ2:=Lib.hid (HQ.out.kp KK.out);have HU2:=Lib.hid (HU.out.kp KK.out);clear HQ HU;go_wp2_with fail;go_loop [9,10] (fun l i=>∃ k:Nat,k≤U∧i=.int .i64 (k:Int)∧l=.int .i64 (ahead LO un k)∧-1≤ahead LO un k∧(∀ j,j<k→ahead LO un j<un.getD j 0∧un.getD j 0≤HI∧(ats t (2*(un.getD j 0).toNat)).kind=1)) (fun _ i=>(U - (intOf i).toNat))
     case atStart=>exact ⟨0,Nat.zero_le _,rfl,by rw[H0.out],by rw[H0.out];omega,fun j h=>by omega⟩
     case round=>
      obtain ⟨k,hk,rfl,rfl,hge,hpre⟩:=hrel;by_cases hlt:k<U
      ·obtain ⟨g1,o1,rfl,_,hc1⟩:=HQ2.out.at k hlt
       have d1:=hc1 k hlt;have HS2:=HS.out k;have i1:IntKind.i64.wrap ((k:Int)+1)=(k:Int)+1:=IntWalk.i64_in _ (by omega);have HPRE:Hid ((ahead LO un k<un.getD k 0∧un.getD k 0≤HI∧(ats t (2*(un.getD k 0).toNat)).kind=1)→∀ j,j<k+1→ahead LO un j<un.getD j 0∧un.getD j 0≤HI∧(ats t (2*(un.getD j 0).toNat)).kind=1):=fun he j hj=>by
        rcases Nat.lt_or_eq_of_le (Nat.lt_succ_iff.1 hj) with h3 | h3
        ·exact hpre j h3
        ·rw[h3];exact he
       have HNO2:Hid (¬(ahead LO un k<un.getD k 0∧un.getD k 0≤HI∧(ats t (2*(un.getD k 0).toNat)).kind=1)→¬OKP):=fun h=>HNO.out fun h2=>h (h2 k hlt)
       clear hc1 hpre HNO HY H0 HS;generalize ahead LO un k=A at *;generalize un.getD k 0=V at *;by_cases g1:A<V
       ·by_cases g2:V≤HI
        ·obtain ⟨v,rfl⟩:=Int.eq_ofNat_of_zero_le (show 0≤V by omega)
         rw[Int.toNat_natCast] at HPRE HNO2;obtain ⟨b2,off2,e2,_,hc2⟩:=HU2.out.at (2*v) (by omega);cases e2;obtain ⟨p2,q2,h2,hn2⟩:=hc2 (2*v) (by omega);have d2:=hn2.kind;have i4:IntKind.i64.wrap (2*(v:Int))=((2*v:Nat):Int):=by rw[IntWalk.i64_in _ (by omega)];omega
         have i5:((2*v:Nat):Int)<(N:Int):=by omega
         have g1b:¬(v:Int)≤A:=by omega
         have g2b:¬HI<(v:Int):=by omega
         clear hc2 hn2;generalize (ats t (2*v)).kind=Z at *;generalize 2*v=V2 at *;by_cases g3:Z=1
         ·have HP:=Lib.hid (HPRE.out ⟨g1,g2,g3⟩)
          subst g3;have H22:=Lib.hid HS2;clear HPRE HNO2 HS2;go_wp2_with fail;go_round
          case rel=>exact ⟨k+1,by omega,by go_num,by rw[H22.out],by rw[H22.out];omega,HP.out⟩
          case measure=>simp[intOf];omega
         ·have HB:=Lib.hid (HNO2.out fun h=>g3 h.2.2)
          have hne2:(Z==1)=false:=beq_eq_false_iff_ne.2 g3;clear HPRE HNO2 HS2;go_wp2_with fail;go_ret;exact ⟨⟨false,rfl,fun h=>(by cases h),fun h=>absurd h HB.out⟩,KK.out⟩
        ·have HB:=Lib.hid (HNO2.out fun h=>g2 h.2.1)
         have g1b:¬V≤A:=by omega
         have g2b:HI<V:=by omega
         clear HPRE HNO2 HS2;go_wp2_with fail;go_ret;exact ⟨⟨false,rfl,fun h=>(by cases h),fun h=>absurd h HB.out⟩,KK.out⟩
       ·have HB:=Lib.hid (HNO2.out fun h=>g1 h.1)
        have g1b:V≤A:=by omega
        clear HPRE HNO2 HS2;go_wp2_with fail;go_ret;exact ⟨⟨false,rfl,fun h=>(by cases h),fun h=>absurd h HB.out⟩,KK.out⟩
      ·obtain rfl:k=U:=by omega
       have HB:=Lib.hid (HY.out hpre);clear HY HNO hpre HS H0;go_wp2_with fail;go_ret;exact ⟨⟨_,rfl,fun h=>HB.out.2 (beq_iff_eq.1 h),fun h=>beq_iff_eq.2 (HB.out.1 h)⟩,KK.out⟩
    ·have hkb:(kind==2)=false:=beq_eq_false_iff_ne.2 hk1
     have HB:=Lib.hid (fun e=>hk1 (by have:=(HO.1 e).2.2.1;omega));clear HO HUN m HLV;go_enter Tryz.func76,Tryz.ntmps76;go_wp2_with fail;refine (HM.out _ ((Kp.refl _).alloc _)).mono ?_;rintro _ _ ⟨rfl,rfl⟩;go_wp2_with fail;go_ret;exact ⟨⟨false,rfl,fun h=>(by cases h),fun h=>absurd h HB.out⟩,(Kp.refl _).alloc _⟩
  ·have hhb:=ajG hh1
   have hhc:=ajG hh2;have hhd:¬(H:Int)=0:=by omega
   have hhe:¬(H:Int)=32:=by omega
   have HB:=Lib.hid (show ¬OKP from fun e=>by have:=(HO.1 e).2.1;omega);clear HO HUN m HLV;go_enter Tryz.func76,Tryz.ntmps76;go_wp2_with fail;refine (HM.out _ ((Kp.refl _).alloc _)).mono ?_;rintro _ _ ⟨rfl,rfl⟩;go_wp2_with fail;go_ret;exact ⟨⟨false,rfl,fun h=>(by cases h),fun h=>absurd h HB.out⟩,(Kp.refl _).alloc _⟩
 ·rw[decide_eq_false m] at HM
  have HB:=Lib.hid (fun e=>m (HO.1 e).1);clear HO HUN m HLV;go_enter Tryz.func76,Tryz.ntmps76;go_wp2_with fail;refine (HM.out _ ((Kp.refl _).alloc _)).mono ?_;rintro _ _ ⟨rfl,rfl⟩;go_wp2_with fail;go_ret;exact ⟨⟨false,rfl,fun h=>(by cases h),fun h=>absurd h HB.out⟩,(Kp.refl _).alloc _⟩
attribute [local go_sem] Oper.semAt_some
theorem agb:34≠3:=by decide
theorem aoc (K j q:Nat)(x n:Int)(W:World)(hx:x=((nd j q:Nat):Int))(hn:n=((2 ^ K:Nat):Int))(hK:K≤10)(hj:j≤K)(hq:q<2 ^ (K - j))(hT:Tab W):
  alC Tryz.prog 162 #[.pointer (some ⟨W.heap.size,0,none⟩),.pointer (some ⟨W.heap.size+1,0,none⟩)] (fun i v _ _=>v=#[.int .i64 ((nd (j+i) (q / 2 ^ i):Nat):Int),.int .i64 ((nd (j+(i+1)) (q / 2 ^ (i+1)):Nat):Int)]) (K - j) (fun k=>k=W.heap.size∨k=W.heap.size+1∨k=1) ((W.alloc (.cells #[.int .i64 x] 3)).alloc (.cells #[.int .i64 n] 3)):=by
 subst hx hn;refine app K j q W.heap.size (W.heap.size+1) _ hK hj hq ?_ ?_ ((hT.kp ((Kp.refl _).alloc _)).kp ((Kp.refl _).alloc _)) _ rfl
 ·exact ((Boxed.new W 3 (.int .i64 ((nd j q:Nat):Int))).alloc _).cell
 ·have:=(Boxed.new (W.alloc (.cells #[.int .i64 ((nd j q:Nat):Int)] 3)) 3 (.int .i64 ((2 ^ K:Nat):Int))).cell
  rwa [World.size_alloc] at this
theorem afL (K j q:Nat)(w:World)(hK:K≤10)(hj:j≤K)(hq:q<2 ^ (K - j))(hT:Tab w):
  Calls Tryz.prog 92 #[.int .i64 ((nd j q:Nat):Int),.int .i64 ((2 ^ K:Nat):Int)] w fun e w'=>(∃ v,e=.returned (.tuple #[v,.int .i64 0])∧ON 3 w' w.heap.size v (aah K j q))∧Kp w w':=by
 have S:=ad0;obtain ⟨i0,z0,hi0,hz0,hz1,hz2,hz3⟩:=S.hi;have hin:=(adK ((nd j q:Nat):Int) ((2 ^ K:Nat):Int)).2 ⟨K,j,q,hK,rfl,rfl,hj,hq⟩;have HN:=Lib.hid (aeb ((nd j q:Nat):Int) ((2 ^ K:Nat):Int));rw[hin] at HN;obtain ⟨X,hX⟩:∃ X:Int,X=((nd j q:Nat):Int):=⟨_,rfl⟩;obtain ⟨N,hN⟩:∃ N:Int,N=((2 ^ K:Nat):Int):=⟨_,rfl⟩;rw[← hX,← hN] at HN ⊢;have HU:=Lib.hid (fun W hTW=>aoc K j q X N W hX hN hK hj hq hTW);have HTK:Hid (∀ i,i<K - j→(aah K j q).take (i+1)=(aah K j q).take i++[nd (j+(i+1)) (q / 2 ^ (i+1))]):=fun i hi=>by
  rw[show j+(i+1)=j+1+i by omega];exact ahG K j q i hi
 have HE:Hid ((aah K j q).take (K - j)=aah K j q):=List.take_of_length_le (by rw[acb];omega);have HLN:Hid (∀ i,((aah K j q).take i).length≤1000):=fun i=>by rw[List.length_take,acb];omega
 obtain ⟨f,hf⟩:∃ f:Nat→Nat,f=fun i=>nd (j+i) (q / 2 ^ i):=⟨_,rfl⟩
 have hfi:∀ i,nd (j+i) (q / 2 ^ i)=f i:=fun i=>by rw[hf]
 simp only[hfi] at HU HTK;generalize aah K j q=PL at *;generalize K - j=D at *;clear hX hN hin hq hj hK hf hfi;refine (callsIn_wide (n:=4)).1 ?_;refine callsIn_of_wp_marks Tryz.func92 rfl trivial ?_ rfl;refine wpIn_wide.2 ?_;simp only[Tryz.ntmps92,List.append_toArray,List.size_toArray,List.length_nil,List.length_cons,Nat.reduceAdd,Nat.reduceSub,Array.replicate_succ,Array.replicate_zero,List.push_toArray,List.nil_append,List.cons_append];go_wp2_with fail;refine (HN.out _).mono ?_;rintro _ _ ⟨rfl,rfl⟩;go_wp2_with fail;obtain ⟨W1,hW1⟩:∃ W1,w.alloc (.cells #[.slice none 0 0] 34)=W1:=⟨_,rfl⟩;rw[hW1];have hb1:Boxed W1 w.heap.size 34 (.slice none 0 0):=by rw[← hW1];exact Boxed.new _ _ _
 have k1:Kp w W1:=by rw[← hW1];exact (Kp.refl _).alloc _
 have hs1:W1.heap.size=w.heap.size+1:=by rw[← hW1];simp
 refine (apR _ _ _).mono ?_;rintro _ W2 ⟨rfl,hW2⟩;have k2:Kp W1 W2:=by rw[← hW2];exact ((Kp.refl _).alloc _).alloc _
 have hs2:W2.heap.size=W1.heap.size+2:=by rw[← hW2];simp
 have hb2:Boxed W2 w.heap.size 34 (.slice none 0 0):=(k2.block _ hb1.lt).trans hb1;have HUH:=HU.out W1 (hT.kp k1);rw[hW2] at HUH;have kw2:=Below.trans k1 (k2.mono (by omega));have htl:=hT.lt;have HUH2:=Lib.hid HUH;have HS:=Lib.hid (And.intro hs1 hs2);clear hW1 hW2 hb1 HU k1 k2 HUH HN hs1 hs2;go_wp2_with fail;have hE:∀ args w,(callFunc 162 args).run Tryz.prog w=.ok (.enter 162 args) w:=enters_of Tryz.func162 (by kernel_rfl) rfl;obtain ⟨R,hR⟩:∃ R:Nat→Prop,(fun k=>k=W1.heap.size∨k=W1.heap.size+1∨k=1)=R:=⟨_,rfl⟩;have hRb:∀ k,R k→w.heap.size<k∧k<W2.heap.size∨k<w.heap.size:=fun k hk=>by have:=HS.out;rw[← hR] at hk;rcases hk with rfl | rfl | rfl <;> omega
 rw[hR] at HUH2;clear hR;refine acG (gf:=162) (lb:=#[.pointer (some ⟨W1.heap.size,0,none⟩),.pointer (some ⟨W1.heap.size+1,0,none⟩)]) rfl hE (Kp.refl W2) (fun k hk=>by have:=hRb k hk;have:=HS.out;omega) HUH2.out ?sz
   (fun i Y A=>∃ v,Coll 34 3 w R (PL.take i) Y A v) (fun c i Y A=>False) ?mI ?mIx ?TT ?h0
   (fun v a' _=>∃ x y:Int,v=#[.int .i64 x,.int .i64 y]∧a'={ tmps:=#[.int .i64 X,.int .i64 N,undef,undef,.slice none 0 0,.int .i64 0,.pointer (some ⟨w.heap.size,0,none⟩),undef,.int .i64 y,.int .i64 X,.int .i64 N,.bool true,.bool false,.int .i64 X,.int .i64 N,.func (.func 162) #[] #[.pointer (some ⟨W1.heap.size,0,none⟩),.pointer (some ⟨W1.heap.size+1,0,none⟩)],.int .i64 x,.int .i64 y,undef,undef,undef,undef,undef],defers:=[] })
   (fun _ _ _ _ _ _ h _ _=>h) ?assign ?body ?done ?stop
 case h0=>exact ⟨_,hb2,by rw[List.take_zero];exact ON.nil _ _ _,(fun g hg=>by cases hg),kw2⟩
 case sz=>intro i v Y A h;rw[h];rfl
 case mI=>intro i;exact Coll.minds (by have:=HS.out;omega)
 case mIx=>intro c i Y Y' A A' h;exact h.elim
 case TT=>intro i v Yi Y A A' l o h _ _ _ _ _;exact h
 case assign=>
  intro l i Y Yi v A Kk hI hTv hK;subst hTv;gi_wp2
  exact hK _ _ (Kp.refl _) ⟨_,_,rfl,rfl⟩
 case body=>
  rintro l i Y v a' A hi ⟨u,hc⟩ hyb hRA hTv ⟨x,y,hxy,rfl⟩;subst hTv;simp only[Array.mk.injEq,List.cons.injEq,Value.int.injEq,true_and,and_true] at hxy;obtain ⟨rfl,rfl⟩:=hxy;have hcell:=hc.box.cell;have hne0:((PL.take i).map iv).length≤1000:=by rw[List.length_map];exact HLN.out i
  have hAB:w.heap.size<A.heap.size:=hc.box.lt;have hYR:∀ k,Y k∨R k→k≠w.heap.size∧k<A.heap.size:=fun k hk=>by
   have:=HS.out;have h3:=hRA.size;rcases hk with h | h
   ·have:=hyb k h;omega
   ·have:=hRb k h;omega
  have HTI:=Lib.hid (HTK.out i hi);have HY:=Lib.hid hYR;have HC:=Lib.hid hc;clear hYR hyb hRA hc;gi_wp2_with (gi_at_builtin;refine wpListIn_append_own_at _ rfl _ _ 34 rfl w.heap.size 3 i0 z0 1 i0.bytes S.ht hi0 hz0 hz1 rfl hz3 (by decide) u _ ((PL.take i).map iv) rfl (ON.kp HC.out.own ((Kp.refl _).alloc _)) ⟨A.heap.size,0,none⟩ 1 1 [iv (f (i+1))] rfl rfl (cell_one_new A _ _) (by intro u hu;simp at hu;subst hu;rfl) (by unfold maxLen;omega) (by have:=Nat.mul_le_mul (show ((PL.take i).map iv).length+1≤1001 by omega) hz2;omega) (by simp;omega) ?_;intro v' w1 ho1 hg1 _ hat;obtain ⟨gv,cv,rfl⟩:=ownsRow_succ ho1;obtain ⟨cx,fz,cl,hd⟩:=Coll.next agb HC.out hAB HY.out (x:=f (i+1)) (by unfold ON;rw[List.map_append,List.length_append];exact ho1) hg1 hat)
  simp only[List.length_map,List.length_take] at cl hd;rw[HTI.out];exact ⟨hd,_,cl⟩
 case done=>
  rintro D' Y W hD hYD hYb ⟨u,hc⟩ hd;rename_i Qp Kk hKk
  rw[HE.out] at hc;obtain ⟨au,nu,cu,rfl⟩:=(ON.rn hc.own).sl;have c1:=hc.box.cell;simp only[Exit.inBlock,Exit.then];refine hKk _ _ ?_;go_wp2;have hst:Step (fun k=>k=D') W (W.putObj D' (.deferred none)):=(Step.refl _ W).putObj _ _ (.inr rfl);refine ⟨by simp,.inl ⟨_,_,rfl,run_takeDeferred hd,?_⟩⟩;refine ⟨_,results_tmp2 rfl _ _ _,⟨_,rfl,?_⟩,Below.trans hc.kp (hst.below hc.kp.size (fun k hk=>by have:=HS.out;omega))⟩;exact (adx hc.own hst (fun g hg e=>by subst e;exact hc.apt g hg (.inl hYD)))
 case stop=>intro D' c i Y W hD hYD hYb hi h;exact h.elim
end Go.Proofs.YthmhklmkgkfcpaaGreatDoor
