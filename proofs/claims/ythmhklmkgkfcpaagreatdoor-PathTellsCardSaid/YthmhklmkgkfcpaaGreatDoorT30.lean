import Derived.Test.YthmhklmkgkfcpaaGreatDoorT20
import Derived.Test.YthmhklmkgkfcpaaGreatDoorT22
import Derived.Test.YthmhklmkgkfcpaaGreatDoorT26
import Derived.Deep.AppendLies
set_option linter.unusedVariables false
set_option linter.unusedSimpArgs false
set_option maxHeartbeats 8000000
set_option maxRecDepth 100000
namespace Go.Proofs.YthmhklmkgkfcpaaGreatDoor
open Go.RowKit
def srt (l:List Sd):Prop:=l.Pairwise fun a b=>a.node<b.node
theorem agd:∀ (l:List Sd) (s x:Sd),x∈putS l s↔x=s∨x∈l
 | [],s,x=>by simp[putS]
 | a :: l,s,x=>by
  unfold putS
  split
  ·rw[List.mem_cons]
  ·rw[List.mem_cons,agd l s x,List.mem_cons]
   constructor
   ·rintro (h | h | h)
    ·exact .inr (.inl h)
    ·exact .inl h
    ·exact .inr (.inr h)
   ·rintro (h | h | h)
    ·exact .inr (.inl h)
    ·exact .inl h
    ·exact .inr (.inr h)
theorem alG:∀ (l:List Sd) (s:Sd),srt l→(∀ a∈l,a.node≠s.node)→srt (putS l s)
 | [],s,_,_=>List.pairwise_singleton _ _
 | a :: l,s,h,hn=>by
  have h1:=List.pairwise_cons.1 h
  unfold putS
  split
  ·next hlt=>
   refine List.pairwise_cons.2 ⟨fun b hb=>?_,h⟩
   rcases List.mem_cons.1 hb with e | e
   ·rw[e];exact hlt
   ·exact Int.lt_trans hlt (h1.1 b e)
  ·next hlt=>
   have hne:=hn a (by simp)
   refine List.pairwise_cons.2 ⟨fun b hb=>?_,alG l s h1.2 fun b hb=>hn b (by simp[hb])⟩
   rcases (agd l s b).1 hb with e | e
   ·rw[e];omega
   ·exact h1.1 b e
theorem aiN:∀ (l:List Sd),srt l→∀ s∈l,aaJ l s.node=s.seed
 | [],_,s,h=>by cases h
 | a :: l,hs,s,h=>by
  have h1:=List.pairwise_cons.1 hs
  unfold aaJ
  rcases List.mem_cons.1 h with e | e
  ·rw[e,if_pos rfl]
  ·have:=h1.1 s e
   rw[if_neg (by omega)]
   exact aiN l h1.2 s e
theorem aoe:∀ (xs:List Nat) (own:List Sd) (s:List UInt8) (x:Sd),x∈ownS own s xs↔x∈own∨∃ a,a<xs.length∧x=⟨((xs.getD a 0:Nat):Int),aaZ s a⟩
 | [],own,s,x=>by
  show x∈own↔_
  exact ⟨fun h=>.inl h,fun h=>by
   rcases h with h | ⟨a,ha,_⟩
   ·exact h
   ·exact absurd ha (Nat.not_lt_zero _)⟩
 | y :: xs,own,s,x=>by
  show x∈ownS (putS own ⟨(y:Int),derB s abY⟩) (derB s ack) xs↔_
  rw[aoe xs,agd]
  have hs:∀ a,aaZ (derB s ack) a=aaZ s (a+1):=fun a=>by
   unfold aaZ
   congr 1
   have:=ads s 1 a
   rw[Nat.add_comm] at this
   exact this.symm
  constructor
  ·rintro ((h | h) | ⟨a,ha,h⟩)
   ·exact .inr ⟨0,by simp,h⟩
   ·exact .inl h
   ·exact .inr ⟨a+1,by simpa using ha,by rw[h,hs];rfl⟩
  ·rintro (h | ⟨a,ha,h⟩)
   ·exact .inl (.inr h)
   ·cases a with
    | zero=>exact .inl (.inl h)
    | succ a=>exact .inr ⟨a,by simpa using ha,by rw[h,hs];rfl⟩
theorem aof:∀ (xs:List Nat) (own:List Sd) (s:List UInt8),xs.Nodup→srt own→(∀ a∈own,∀ x∈xs,a.node≠((x:Nat):Int))→srt (ownS own s xs)
 | [],own,s,_,h,_=>h
 | y :: xs,own,s,hn,h,hd=>by
  have h1:=List.nodup_cons.1 hn
  refine aof xs _ _ h1.2 (alG own _ h fun a ha=>hd a ha y (by simp)) fun a ha x hx=>?_
  rcases (agd _ _ _).1 ha with e | e
  ·rw[e]
   intro e2
   have:y=x:=Int.ofNat.inj e2
   subst this
   exact h1.1 hx
  ·exact hd a e x (by simp[hx])
theorem ae3 {l:List Sd}{k:Nat}(h:k<l.length):sdAt l k∈l:=by
 unfold sdAt;rw[List.getD_eq_getElem?_getD,List.getElem?_eq_getElem h];exact List.getElem_mem h
theorem abr {l:List Sd}{k:Nat}(h:k<l.length):sdAt l k=l[k]:=by
 unfold sdAt;rw[List.getD_eq_getElem?_getD,List.getElem?_eq_getElem h];rfl
theorem ad6 {t:List Nod}{K:Nat}{me:Int}{own:List Sd}:aaY t K me own ↔
  aas t me∧srt own∧(∀ s∈own,(s.node=2*me∨∃ x∈aag K 0 me.toNat,(x:Int)=s.node∧(ats t x).kind=2)∧s.seed.length=32∧pubB s.seed=(ats t s.node.toNat).pub) ∧
  (∀ x∈aag K 0 me.toNat,(ats t x).kind=2→me∉(ats t x).un→∃ s∈own,s.node=(x:Int))∧∃ s∈own,s.node=2*me:=by
 constructor
 ·rintro ⟨h1,h2,h3,h4⟩
  have hm:∀ s∈own,(s.node=2*me∨∃ x∈aag K 0 me.toNat,(x:Int)=s.node∧(ats t x).kind=2)∧s.seed.length=32∧pubB s.seed=(ats t s.node.toNat).pub:=fun s hs=>by
   obtain ⟨k,hk,rfl⟩:=List.getElem_of_mem hs;have:=h2 k hk;rw[abr hk] at this;exact ⟨this.1,this.2.1,this.2.2.1⟩
  have hadj:∀ d a,a+d+1<own.length→(sdAt own a).node<(sdAt own (a+d+1)).node:=fun d=>by
   induction d with
   | zero=>exact fun a ha=>by have:=(h2 (a+0+1) ha).2.2.2 (by omega);rwa [show a+0+1 - 1=a by omega] at this
   | succ d ih=>
    intro a ha;have g1:=ih a (by omega);have g2:=(h2 (a+(d+1)+1) ha).2.2.2 (by omega);rw[show a+(d+1)+1 - 1=a+d+1 by omega] at g2;exact Int.lt_trans g1 g2
  refine ⟨h1,List.pairwise_iff_getElem.2 fun a b ha hb hab=>?_,hm,fun x hx h5 h6=>?_,?_⟩
  ·have:=hadj (b - a - 1) a (by omega)
   rw[show a+(b - a - 1)+1=b by omega,abr ha,abr hb] at this;exact this
  ·obtain ⟨k,k1,k2,_⟩:=aiL own _ (h3 x hx h5 h6)
   exact ⟨_,ae3 k1,k2⟩
  ·obtain ⟨k,k1,k2,_⟩:=aiL own _ h4
   exact ⟨_,ae3 k1,k2⟩
 ·rintro ⟨h1,h2,h3,h4,h5⟩
  have hf:∀ s∈own,(aaJ own s.node).length≠0:=fun s hs=>by
   rw[aiN own h2 s hs,(h3 s hs).2.1];decide
  refine ⟨h1,fun k hk=>?_,fun x hx h6 h7=>?_,?_⟩
  ·obtain ⟨g1,g2,g3⟩:=h3 _ (ae3 hk)
   refine ⟨g1,g2,g3,fun h0=>?_⟩;rw[abr hk,abr (show k - 1<own.length by omega)];exact List.pairwise_iff_getElem.1 h2 (k - 1) k (by omega) hk (by omega)
  ·obtain ⟨s,hs,e⟩:=h4 x hx h6 h7
   rw[← e];exact hf s hs
  ·obtain ⟨s,hs,e⟩:=h5
   rw[← e];exact hf s hs
theorem aps {t:List Nod}{K i a:Nat}(seed secret info:List UInt8)(ha:a<(ixS t i K).length):
  ∃ k,k<K∧0<(whoF t i k).length∧(ixS t i K).getD a 0=k∧(aac t i K).getD a 0=nd (k+1) (i / 2 ^ (k+1))∧(whoN t i K).getD a []=whoF t i k∧(stAt (abk t K i seed secret info).step a).fors.length=(whoF t i k).length:=by
 have hg:=List.getElem?_eq_getElem ha;obtain ⟨h1,h2⟩:=(afx t i K _).1 (List.getElem_mem ha);have hw:(whoN t i K).getD a []=whoF t i (ixS t i K)[a]:=by
  unfold whoN;rw[List.getD_eq_getElem?_getD,List.getElem?_map,hg];rfl
 refine ⟨_,h1,h2,by rw[List.getD_eq_getElem?_getD,hg];rfl,?_,hw,?_⟩
 ·unfold aac
  rw[List.getD_eq_getElem?_getD,List.getElem?_map,hg];rfl
 ·rw[((adb t K i seed secret info).2.2 a (by rw[(aaE t i K).2];exact ha)).1,hw]
def TS11 (p1 p2:List UInt8):List Nod:=[aah 1 p1,aao,aah 2 p2]
section
variable {p1 p2 : List UInt8}
theorem aiO (h1:p1.length=32):newE 1 p1=0∧newV 1 p1=[aah 1 p1]:=by
 have hm:mayP 1 p1:=⟨by decide,by decide,h1⟩;exact ⟨if_pos hm,if_pos hm⟩
theorem aiP (h1:p1.length=32)(h2:p2.length=32):addE [aah 1 p1] 2 p2=0∧addV [aah 1 p1] 2 p2=TS11 p1 p2∧addI [aah 1 p1] 2 p2=1:=by
 have hm:mayP 2 p2:=⟨by decide,by decide,h2⟩;have hE:addE [aah 1 p1] 2 p2=0:=by
  unfold addE;rw[if_pos hm];kernel_rfl
 unfold addV addI;rw[if_pos hE,if_pos hE];refine ⟨hE,?_,?_⟩
 ·kernel_rfl
 ·kernel_rfl
theorem akR (h1:p1.length=32):aaa [aah 1 p1] 0:=(aiO h1).2▸(aaa.new ⟨by decide,by decide,h1⟩)
theorem aml (h1:p1.length=32)(h2:p2.length=32):aaa (TS11 p1 p2) 1:=by
 refine ⟨by omega,rfl,fun x hx=>?_,fun x y hxy hy e1 e2=>?_,⟨0,(show 0<3 by decide),rfl⟩⟩
 ·have hx3:x<3:=hx
  rcases (show x=0∨x=1∨x=2 by omega) with rfl | rfl | rfl
  ·exact .inr ⟨rfl,⟨(show (0:Int)≤1 by decide),(show (1:Int)≤65535 by decide),h1⟩,.inl rfl,fun _=>rfl,fun h=>(by cases h)⟩
  ·exact .inl rfl
  ·exact .inr ⟨rfl,⟨(show (0:Int)≤2 by decide),(show (2:Int)≤65535 by decide),h2⟩,.inl rfl,fun _=>rfl,fun h=>(by cases h)⟩
 ·have hy3:y<3:=hy
  rcases (show (x=0∧y=1)∨(x=0∧y=2)∨(x=1∧y=2) by omega) with ⟨rfl,rfl⟩ | ⟨rfl,rfl⟩ | ⟨rfl,rfl⟩
  ·cases e2
  ·exact (show (1:Int)≠2 by decide)
  ·cases e1
theorem amm (h1:p1.length=32)(h2:p2.length=32):adT (TS11 p1 p2) 40:=⟨(show 3≤40 by decide),fun n hn=>by
 unfold TS11 at hn;simp only[List.mem_cons,List.not_mem_nil,or_false] at hn;rcases hn with rfl | rfl | rfl
 ·exact ⟨by show p1.length≤40;omega,(show 0≤40 by decide),(show 0≤40 by decide)⟩
 ·exact ⟨by decide,by decide,by decide⟩
 ·exact ⟨by show p2.length≤40;omega,(show 0≤40 by decide),(show 0≤40 by decide)⟩⟩
theorem aie:(ats (TS11 p1 p2) (2*0)).kind=1∧(ats (TS11 p1 p2) (2*1)).kind=1∧aac (TS11 p1 p2) 0 1=[1]∧aac (TS11 p1 p2) 1 1=[1]∧whoN (TS11 p1 p2) 0 1=[[2]]∧abO (TS11 p1 p2) 1=0∧aas (TS11 p1 p2) 0∧aas (TS11 p1 p2) 1:=
 ⟨rfl,rfl,by kernel_rfl,by kernel_rfl,by kernel_rfl,by kernel_rfl,⟨by decide,(show (0:Int)<((3+1) / 2:Nat) by decide),rfl⟩,⟨by decide,(show (1:Int)<((3+1) / 2:Nat) by decide),rfl⟩⟩
theorem amn {s:List UInt8}(hs:s.length=32)(hp:p2=pubB s):aaY (TS11 p1 p2) 1 (1:Int) [⟨2,s⟩]∧¬aaY (TS11 p1 p2) 1 (0:Int) [⟨2,s⟩]:=by
 refine ⟨ad6.2 ⟨(aie (p1:=p1) (p2:=p2)).2.2.2.2.2.2.2,List.pairwise_singleton _ _,fun x hx=>?_,fun x hx hk=>?_,⟨_,List.mem_singleton.2 rfl,rfl⟩⟩,fun h=>?_⟩
 ·rw[List.mem_singleton] at hx
  subst hx;exact ⟨.inl rfl,hs,hp.symm⟩
 ·have:x∈[1]:=hx
  rw[List.mem_singleton] at this;subst this;cases hk
 ·obtain ⟨_,_,_,_,⟨z,hz,e⟩⟩:=ad6.1 h
  rw[List.mem_singleton] at hz;subst hz;cases e
end
theorem amo {l m:List Sd}(hl:srt l)(hm:srt m)(h:∀ s,s∈l↔s∈m):l=m:=by
 have nd:∀ {l:List Sd},srt l→l.Nodup:=fun {l} hl=>hl.imp fun {a b} hab e=>by subst e;omega
 have hp:l.Perm m:=(List.perm_ext_iff_of_nodup (nd hl) (nd hm)).2 h;have h1:l.Pairwise fun a b=>a.node<b.node:=hl
 have h2:m.Pairwise fun a b=>a.node<b.node:=hm
 exact List.Perm.eq_of_pairwise (le:=fun a b:Sd=>a.node<b.node) (fun a b _ _ h3 h4=>absurd h3 (by omega)) h1 h2 hp
def ac2 (s:List UInt8)(n:Nat):List (List UInt8):=(List.range n).map (secS s)
theorem acg (s:List UInt8)(n:Nat):(ac2 s n).length=n:=by unfold ac2;simp
theorem amp (s:List UInt8)(n:Nat):ac2 s (n+1)=ac2 s n++[secS s n]:=by
 unfold ac2;rw[List.range_succ,List.map_append];rfl
theorem aiQ (s:List UInt8){n k:Nat}(h:k<n):(ac2 s n).getD k []=secS s k:=by
 unfold ac2;rw[List.getD_eq_getElem?_getD,List.getElem?_map,List.getElem?_range h];rfl
theorem amq (s:List UInt8){n m:Nat}(h:m≤n):(ac2 s n).take m=ac2 s m:=by
 unfold ac2;rw[← List.map_take,List.take_range,Nat.min_eq_left h]
theorem apu {K i me j:Nat}(hK:K≤10)(hi:i<2 ^ K)(hm:me<2 ^ K):me / 2 ^ j=i / 2 ^ j↔meet i me≤j:=by
 obtain ⟨h1,h2,h3⟩:=ajm hK hi hm;constructor
 ·intro h
  exact Nat.le_of_not_lt fun hlt=>h3 j hlt h.symm
 ·intro h
  obtain ⟨d,rfl⟩:=Nat.exists_eq_add_of_le h;rw[Nat.pow_add,← Nat.div_div_eq_div_mul,← Nat.div_div_eq_div_mul,h2]
theorem apw {t:List Nod}{K i me:Nat}(hK:K≤10)(hi:i<2 ^ K)(hm:me<2 ^ K)(hne:i≠me)(hw:0<(whoF t i (meet i me - 1)).length){a k:Nat}(hk:(ixS t i K)[a]?=some k):
  me / 2 ^ (k+1)=i / 2 ^ (k+1)↔kM t i me≤a:=by
 obtain ⟨m1,m2,_,_⟩:=ada hK hi hm hne;rw[apu hK hi hm];obtain ⟨rest,e⟩:=agP t i _ hw K (by omega);unfold kM;constructor
 ·intro h
  refine Nat.le_of_not_lt fun hlt=>?_
  rw[e,List.getElem?_append_left hlt] at hk;have:=alE t i _ k (List.mem_of_getElem? hk);omega
 ·intro h
  rw[e,List.getElem?_append_right h] at hk;have hr:=aga t i K;rw[e] at hr;have h2:=(List.pairwise_append.1 hr).2.1;rcases List.mem_cons.1 (List.mem_of_getElem? hk) with e3 | e3
  ·omega
  ·have:=(List.pairwise_cons.1 h2).1 k e3
   omega
theorem apy {own:List Sd}{s:List UInt8}{xs:List Nat}(hn:xs.Nodup)(h:srt own)(hd:∀ a∈own,∀ x∈xs,a.node≠((x:Nat):Int)){r:List Sd}(hr:srt r)
  (hm:∀ y,y∈r↔y∈own∨∃ a,a<xs.length∧y=⟨((xs.getD a 0:Nat):Int),aaZ s a⟩):r=ownS own s xs:=
 amo hr (aof xs own s hn h hd) fun y=>by rw[hm,aoe]
def aeG (t:List Nod)(own:List Sd)(x:Nat):Prop:=∃ s∈own,s.node=(x:Int)∧s.seed.length=32∧pubB s.seed=(ats t x).pub
def aqW (t:List Nod)(me:Int)(x:Nat):Prop:=(ats t x).kind≠0∧me∉(ats t x).un
def wayL (K me:Nat):List Nat:=aag K 0 me++[2*me]
theorem amr (K me:Nat):(wayL K me).Nodup:=by
 unfold wayL;refine List.nodup_append.2 ⟨afj K me,by simp,fun a ha b hb e=>?_⟩;simp at hb;subst hb;have:=abK ha;omega
theorem akS {own:List Sd}(h:srt own):(own.map (·.node)).Nodup:=List.pairwise_map.2 (h.imp fun {a b} hab=>by omega)
theorem aog {own:List Sd}(h:srt own){a b:Sd}(ha:a∈own)(hb:b∈own)(e:a.node=b.node):a=b:=by
 have h1:=aiN own h a ha;have h2:=aiN own h b hb;rw[e] at h1;cases a;cases b;simp_all
theorem agQ:∀ (A B:List Int),A.Nodup→(∀ x∈A,x∈B)→B.length≤A.length→A.Perm B
 | [],B,_,_,h=>by rw[List.eq_nil_of_length_eq_zero (Nat.le_zero.1 h)]
 | a :: A,B,hn,hs,hl=>by
  obtain ⟨s,t,rfl⟩:=List.append_of_mem (hs a (by simp))
  have h1:=List.nodup_cons.1 hn
  have ih:=agQ A (s++t) h1.2 (fun x hx=>by
   have:=hs x (by simp[hx])
   rcases List.mem_append.1 this with h | h
   ·exact List.mem_append.2 (.inl h)
   ·rcases List.mem_cons.1 h with e | e
    ·subst e;exact absurd hx h1.1
    ·exact List.mem_append.2 (.inr e)) (by simp at hl ⊢;omega)
  exact (ih.cons a).trans List.perm_middle.symm
open Classical in
theorem akT {t:List Nod}{K me:Nat}{own:List Sd}(hr:aaa t K)(hth:aas t (me:Int))(hs:srt own):
  aaY t K (me:Int) own↔(∀ x∈wayL K me,aeG t own x∨¬aqW t (me:Int) x)∧((wayL K me).filter fun x=>decide (aeG t own x)).length=own.length:=by
 have hk1:=(hr.there_iff me).1 hth;have inj:∀ a b:Nat,(a:Int)=(b:Int)→a=b:=fun a b h=>by omega
 have hAn:(((wayL K me).filter fun x=>decide (aeG t own x)).map fun x:Nat=>(x:Int)).Nodup:=List.pairwise_map.2 (((amr K me).sublist List.filter_sublist).imp fun {a b} hab e=>hab (inj _ _ e));have hBn:=akS hs;have hsub:∀ z,z∈((wayL K me).filter fun x=>decide (aeG t own x)).map (fun x:Nat=>(x:Int))→z∈own.map (·.node):=fun z hz=>by
  obtain ⟨x,hx,rfl⟩:=List.mem_map.1 hz;obtain ⟨s,h1,h2,_⟩:=of_decide_eq_true (List.mem_filter.1 hx).2;exact List.mem_map.2 ⟨s,h1,h2⟩
 rw[ad6,Int.toNat_natCast];constructor
 ·rintro ⟨_,_,s3,s4,s5⟩
  have good:∀ s∈own,∃ x∈wayL K me,(x:Int)=s.node∧aeG t own x:=fun s h=>by
   obtain ⟨a,b,c⟩:=s3 s h;rcases a with a | ⟨x,x1,x2,x3⟩
   ·refine ⟨2*me,by unfold wayL;simp,by rw[a];omega,s,h,by rw[a];omega,b,?_⟩
    rw[c,a];congr 2
   ·refine ⟨x,by unfold wayL;simp[x1],x2,s,h,x2.symm,b,?_⟩
    rw[c,← x2,Int.toNat_natCast]
  refine ⟨fun x hx=>?_,?_⟩
  ·rw[Classical.or_iff_not_imp_right,Classical.not_not]
   rintro ⟨m1,m2⟩;have:∃ s∈own,s.node=(x:Int):=by
    unfold wayL at hx;rcases List.mem_append.1 hx with hx | hx
    ·refine s4 x hx ?_ m2
     rcases hr.odd (abK hx) with e | ⟨e,_⟩
     ·rw[e] at m1;exact absurd rfl m1
     ·exact e
    ·simp at hx
     subst hx;obtain ⟨s,a,b⟩:=s5;exact ⟨s,a,by rw[b];omega⟩
   obtain ⟨s,a,b⟩:=this;obtain ⟨y,y1,y2,y3⟩:=good s a;have:y=x:=inj _ _ (by rw[y2,b]);exact this▸y3
  ·have hp:(((wayL K me).filter fun x=>decide (aeG t own x)).map fun x:Nat=>(x:Int)).Perm (own.map (·.node)):=by
    refine (List.perm_ext_iff_of_nodup hAn hBn).2 fun z=>⟨hsub z,fun hz=>?_⟩
    obtain ⟨s,h1,rfl⟩:=List.mem_map.1 hz;obtain ⟨x,x1,x2,x3⟩:=good s h1;exact List.mem_map.2 ⟨x,List.mem_filter.2 ⟨x1,decide_eq_true x3⟩,x2⟩
   have:=hp.length_eq;simpa using this
 ·rintro ⟨h1,h2⟩
  have hp:(((wayL K me).filter fun x=>decide (aeG t own x)).map fun x:Nat=>(x:Int)).Perm (own.map (·.node)):=
   agQ _ _ hAn hsub (by simp[h2])
  have good:∀ s∈own,∃ x∈wayL K me,(x:Int)=s.node∧s.seed.length=32∧pubB s.seed=(ats t x).pub:=fun s h=>by
   have:=hp.symm.subset (List.mem_map.2 ⟨s,h,rfl⟩);obtain ⟨x,hx,e⟩:=List.mem_map.1 this;obtain ⟨h3,h4⟩:=List.mem_filter.1 hx;obtain ⟨s',q1,q2,q3⟩:=of_decide_eq_true h4;have:s'=s:=aog hs q1 h (by rw[q2,e]);exact ⟨x,h3,e,this▸q3⟩
  refine ⟨hth,hs,fun s h=>?_,fun x hx g1 g2=>?_,?_⟩
  ·obtain ⟨x,x1,x2,x3,x4⟩:=good s h
   refine ⟨?_,x3,by rw[x4,← x2,Int.toNat_natCast]⟩;unfold wayL at x1;rcases List.mem_append.1 x1 with x1 | x1
   ·refine .inr ⟨x,x1,x2,?_⟩
    rcases hr.odd (abK x1) with e | ⟨e,_⟩
    ·rw[e] at x4
     have:=congrArg List.length x4;rw[aa4] at this;cases this
    ·exact e
   ·simp at x1
    exact .inl (by rw[← x2,x1];omega)
  ·rcases h1 x (by unfold wayL;simp[hx]) with ⟨s,a,b,_⟩ | h
   ·exact ⟨s,a,b⟩
   ·exact absurd ⟨by rw[g1];decide,g2⟩ h
  ·rcases h1 (2*me) (by unfold wayL;simp) with ⟨s,a,b,_⟩ | h
   ·exact ⟨s,a,by rw[b];omega⟩
   ·refine absurd ⟨by rw[hk1];decide,?_⟩ h
    rcases hr.even me with e | ⟨_,e,_⟩
    ·rw[e];simp[aao]
    ·rw[e];simp
theorem akU {t:List Nod}{K:Nat}{me:Int}{own:List Sd}(h:aaY t K me own):srt own:=(ad6.1 h).2.1
end Go.Proofs.YthmhklmkgkfcpaaGreatDoor
namespace Go.Proofs.YthmhklmkgkfcpaaGreatDoor
open Go.RowKit Go.Maps
theorem Tryz.infoSd:(Tryz.prog.info? 90).map (fun i=>(i.zero,i.size,i.bytes))=some (some (.agg #[.int .i64 0,.slice none 0 0]),2,32):=by kernel_rfl
theorem Tryz.infoSe:(Tryz.prog.info? 92).map (fun i=>(i.zero,i.size,i.bytes))=some (some (.agg #[.slice none 0 0,.slice none 0 0]),2,48):=by kernel_rfl
theorem Tryz.infoSt:(Tryz.prog.info? 74).map (fun i=>(i.zero,i.size,i.bytes))=some (some (.agg #[.slice none 0 0,.slice none 0 0]),2,48):=by kernel_rfl
theorem Tryz.infoStp:(Tryz.prog.info? 99).map (fun i=>(i.zero,i.size,i.bytes))=some (some (.agg #[.int .i64 0,.slice none 0 0]),2,32):=by kernel_rfl
theorem Tryz.infoRI:(Tryz.prog.info? 34).map (fun i=>(i.zero,i.size,i.bytes))=some (some (.slice none 0 0),1,24):=by kernel_rfl
theorem Tryz.infoBy:(Tryz.prog.info? 24).map (fun i=>(i.zero,i.size,i.bytes))=some (some (.slice none 0 0),1,24):=by kernel_rfl
theorem Tryz.infoN:(Tryz.prog.info? 3).map (fun i=>(i.zero,i.size,i.bytes))=some (some (.int .i64 0),1,8):=by kernel_rfl
theorem sdK:SK Tryz.prog 23 90 2:=SK.mk' Tryz.underlying23 Tryz.infoSd (by decide) rfl
theorem seK:SK Tryz.prog 72 92 2:=SK.mk' Tryz.underlying72 Tryz.infoSe (by decide) rfl
theorem stK:SK Tryz.prog 25 74 2:=SK.mk' Tryz.underlying25 Tryz.infoSt (by decide) rfl
theorem stpK:SK Tryz.prog 93 99 2:=SK.mk' Tryz.underlying93 Tryz.infoStp (by decide) rfl
theorem riK:SK Tryz.prog 100 34 1:=SK.mk' Tryz.underlying100 Tryz.infoRI (by decide) rfl
theorem byK:SK Tryz.prog 115 24 1:=SK.mk' Tryz.underlying115 Tryz.infoBy (by decide) rfl
theorem nK:SK Tryz.prog 34 3 1:=SK.mk' Tryz.underlying34 Tryz.infoN (by decide) rfl
def shN:Sh Nat where
 k:=1
 pos:=by decide
 R:=fun Z w vs x=>vs=[.int .i64 (x:Int)]
 len:=fun e=>by rw[e];rfl
 one:=fun e=>by rw[e];exact ak1 rfl
 solid:=fun e _=>e
 step:=fun e _=>e
theorem arZ.rn {w:World}{v:Value}{l:List Nat}(h:arZ shN w v l):RN w v l:=by
 obtain ⟨a,c,e,h1,h2,h3,h4⟩:=h;refine ⟨a,c,by rw[List.length_map];exact e,by rw[List.length_map];exact h1,h2,h3,fun x hx i hi=>?_⟩;rw[List.length_map] at hi;obtain ⟨b,off,ha,_,hc⟩:=h4 (by omega);rw[hx] at ha;cases ha;obtain ⟨vs,r1,rfl⟩:=hc i _ (List.getElem?_eq_getElem hi);have:=r1 0 _ rfl;rw[Addr.add_mid];simpa [shN,iv] using this
theorem GZ.anyN {e:TypeId}{Z Z':Nat→Prop}{w:World}{B:Nat}{v:Value}{t:List Nat}(h:GZ shN e Z w B v t):GZ shN e Z' w B v t:=h
theorem SE.litZ {α:Type}{S:Sh α}{Z:Nat→Prop}{w:World}{vs:List Value}{x:α}{cs:Array Value}(e:TypeId)(h:S.R Z w vs x)(hc:cs.toList=vs):SE S Z (w.alloc (.cells cs e)) (.slice (some ⟨w.heap.size,0,none⟩) 1 1) [x]:=by
 refine ⟨_,1,rfl,Nat.le_refl _,by unfold maxLen;omega,fun h=>(by cases h),fun _=>⟨w.heap.size,0,rfl,by simp,fun i y hy=>?_⟩⟩;have hi:i<1:=(List.getElem?_eq_some_iff.1 hy).1;obtain rfl:i=0:=by omega
 cases hy;refine ⟨vs,fun j z hj=>?_,S.step h (Step.of_kp ((Kp.refl w).alloc _))⟩;have hb:=(Bx.new w e cs).cell j;subst hc;rw[show 0+0*S.k+j=j by omega,hb,← Array.getElem?_toList];exact hj
theorem ae5 {Z:Nat→Prop}{w:World}{v:Value}(hs:∀ x n c,v=.slice (some x) n c→0<n→x.block<w.heap.size)(hz:∀ g,Z g→w.heap.size≤g):Free Z v:=fun x n c e h0 hk=>by
 have h1:=hs x n c e h0;have h2:=hz _ hk;omega
theorem aaQ {Z:Nat→Prop}{C:Nat}{v:Value}(hv:∀ g,v.ownBlock=some g→C≤g)(hz:∀ g,Z g→g<C):Free Z v:=fun x n c e h0 hk=>by
 have h1:=hv x.block (by rw[e];rfl);have h2:=hz _ hk;omega
theorem GZ.se {α:Type}{S:Sh α}{Z:Nat→Prop}{e:TypeId}{w:World}{B:Nat}{v:Value}{t:List α}(h:GZ S e Z w B v t):SE S Z w v t:=by
 by_cases h0:0<t.length
 ·obtain ⟨g,c,rfl,hb,hg,h1,h2,h3⟩:=h.form h0
  refine ⟨_,c,rfl,h1,h2,fun h=>(by cases h),fun _=>⟨g,0,rfl,hg,fun i x hx=>?_⟩⟩;rw[Nat.zero_add];obtain ⟨vs,r1,r2⟩:=h3 i x hx;exact ⟨vs,r1,S.mono r2 fun _ h=>.inr h⟩
 ·have ht:t=[]:=List.eq_nil_of_length_eq_zero (by omega)
  subst ht;obtain ⟨us,h1,_⟩:=h;rcases h1.2 with ⟨rfl,_⟩ | ⟨g,cap,cur,rfl,hb,hg,hn,hm,hs,ht⟩
  ·exact SE.nil Z w
  ·exact ⟨_,cap,rfl,hn,hm,fun h=>(by cases h),fun h=>absurd h (by simp)⟩
theorem RZ.kp {Z:Nat→Prop}{w w':World}{v:Value}{l:List UInt8}(h:RZ Z w v l)(k:Kp w w'):RZ Z w' v l:=h.step (Step.of_kp k)
theorem SZ.kp {α:Type}{S:Sh α}{Z:Nat→Prop}{w w':World}{v:Value}{l:List α}(h:SZ S Z w v l)(k:Kp w w'):SZ S Z w' v l:=h.step (Step.of_kp k)
theorem SL.nodeK {w:World}{v:Value}{l:List Sd}(h:SL w v l){i:Nat}(hi:i<l.length):
  ∃ b off c q,v=.slice (some ⟨b,off,none⟩) l.length c∧b<w.heap.size∧∀ W,Kp w W→W.cell? ⟨b,off+i*2,none⟩=some (.int .i64 (sdAt l i).node)∧W.cell? ⟨b,off+i*2+1,none⟩=some q∧Rd W q (sdAt l i).seed:=by
 obtain ⟨b,off,c,q,e,hb,c0,c1,r⟩:=SL.node h hi;exact ⟨b,off,c,q,e,hb,fun W k=>⟨k.cell c0,k.cell c1,r.kp k⟩⟩
theorem EL.nodeK {w:World}{v:Value}{l:List Se}(h:EL w v l){i:Nat}(hi:i<l.length):
  ∃ b off c p q,v=.slice (some ⟨b,off,none⟩) l.length c∧b<w.heap.size∧∀ W,Kp w W→W.cell? ⟨b,off+i*2,none⟩=some p∧W.cell? ⟨b,off+i*2+1,none⟩=some q∧Rd W p (seAt l i).half∧Rd W q (seAt l i).b:=by
 obtain ⟨b,off,c,p,q,e,hb,c0,c1,r1,r2⟩:=EL.node h hi;exact ⟨b,off,c,p,q,e,hb,fun W k=>⟨k.cell c0,k.cell c1,r1.kp k,r2.kp k⟩⟩
theorem TL11.nodeK {w:World}{v:Value}{l:List St}(h:TL11 w v l){i:Nat}(hi:i<l.length):
  ∃ b off c p q,v=.slice (some ⟨b,off,none⟩) l.length c∧b<w.heap.size∧∀ W,Kp w W→W.cell? ⟨b,off+i*2,none⟩=some p∧W.cell? ⟨b,off+i*2+1,none⟩=some q∧Rd W p (stAt l i).pub∧EL W q (stAt l i).fors:=by
 obtain ⟨b,off,c,p,q,e,hb,c0,c1,r1,r2⟩:=TL11.node h hi;exact ⟨b,off,c,p,q,e,hb,fun W k=>⟨k.cell c0,k.cell c1,r1.kp k,arZ.kp r2 k⟩⟩
end Go.Proofs.YthmhklmkgkfcpaaGreatDoor
namespace Go.Proofs.YthmhklmkgkfcpaaGreatDoor
open Go.RowKit
def Sly (w:World)(g:Nat):Prop:=∃ (T:TypeId) (cs:Array Value),Bx w g T cs∧∀ (j:Nat) (z:Value),cs[j]?=some z→∃ a n c,z=Value.slice a n c
theorem sly5 {w:World}{g:Nat}{T:TypeId}{a1 a2 a3 a4 a5:Option Addr}{n1 n2 n3 n4 n5 c1 c2 c3 c4 c5:Nat}(h:Bx w g T #[.slice a1 n1 c1,.slice a2 n2 c2,.slice a3 n3 c3,.slice a4 n4 c4,.slice a5 n5 c5]):Sly w g:=
 ⟨T,_,h,fun j z hj=>by
  match j with
  | 0=>cases hj;exact ⟨_,_,_,rfl⟩
  | 1=>cases hj;exact ⟨_,_,_,rfl⟩
  | 2=>cases hj;exact ⟨_,_,_,rfl⟩
  | 3=>cases hj;exact ⟨_,_,_,rfl⟩
  | 4=>cases hj;exact ⟨_,_,_,rfl⟩
  | j+5=>simp at hj⟩
theorem Sly.no {w:World}{g:Nat}(h:Sly w g){x:Addr}{k:IntKind}{n:Int}(hx:x.block=g)(hc:w.cell? x=some (.int k n)):False:=by
 obtain ⟨T,cs,hb,hz⟩:=h;subst hx;unfold World.cell? at hc;have hb':w.heap[x.block]?=some (.cells cs T (0,0)):=hb;rw[hb'] at hc;dsimp only at hc
 split at hc
 ·cases hc
 ·obtain ⟨a,n,c,e⟩:=hz _ _ hc
  cases e
theorem Rd.sly {w:World}{g:Nat}{v:Value}{l:List UInt8}(h:Rd w v l)(hs:Sly w g):Free (fun k=>k=g) v:=fun x n c e h0 hk=>by
 obtain ⟨a',c',e',h1,h2,h3,h4⟩:=h;rw[e] at e';simp only[Value.slice.injEq] at e';obtain ⟨rfl,rfl,rfl⟩:=e';exact hs.no (by rw[aaI];exact hk) (h4 x rfl 0 h0)
theorem RI.sly {w:World}{g:Nat}{v:Value}{l:List Int}(h:RI w v l)(hs:Sly w g):Free (fun k=>k=g) v:=fun x n c e h0 hk=>by
 obtain ⟨a',c',e',h1,h2,h3,h4⟩:=h;rw[e] at e';simp only[Value.slice.injEq] at e';obtain ⟨rfl,rfl,rfl⟩:=e';have hc:=h4 x rfl 0 h0;rw[List.getElem_map] at hc;exact hs.no (by rw[aaI];exact hk) hc
theorem NL.sly {w w':World}{g:Nat}{v:Value}{t:List Nod}(h:NL w v t)(hs:Sly w g)(st:Step (fun k=>k=g) w w'):NL w' v t:=by
 obtain ⟨a,c,e,h1,h2,h3,h4⟩:=h;refine ⟨a,c,e,h1,h2,h3,fun h0=>?_⟩;obtain ⟨b,off,ha,hb,hi⟩:=h4 h0;obtain ⟨p0,u0,h0',hn0⟩:=hi 0 h0;have hne:b≠g:=fun e=>hs.no (x:=⟨b,off+0*5,none⟩) e hn0.kind
 refine ⟨b,off,ha,Nat.lt_of_lt_of_le hb st.size,fun i hi2=>?_⟩;obtain ⟨p,u,q,hn⟩:=hi i hi2;exact ⟨p,u,q,fun j v hj=>st.cell (hn.1 j v hj) hne,hn.2.pub.stepF st (hn.2.pub.sly hs),hn.2.un.stepF st (hn.2.un.sly hs),hn.2.hash.stepF st (hn.2.hash.sly hs)⟩
theorem ag8 {w:World}{g:Nat}{T:TypeId}{a0 a1 a2 a3 a4:Value}(hb:Bx w g T #[a0,a1,a2,a3,a4])(v0 v1 v2 v3 v4:Value):
  Bx (((((w.setCell ⟨g,0,none⟩ v0).setCell ⟨g,1,none⟩ v1).setCell ⟨g,2,none⟩ v2).setCell ⟨g,3,none⟩ v3).setCell ⟨g,4,none⟩ v4) g T #[v0,v1,v2,v3,v4]
  ∧ Step (fun k=>k=g) w (((((w.setCell ⟨g,0,none⟩ v0).setCell ⟨g,1,none⟩ v1).setCell ⟨g,2,none⟩ v2).setCell ⟨g,3,none⟩ v3).setCell ⟨g,4,none⟩ v4)
  ∧ ∀ w0,Kp w0 w→w0.heap.size≤g→Kp w0 (((((w.setCell ⟨g,0,none⟩ v0).setCell ⟨g,1,none⟩ v1).setCell ⟨g,2,none⟩ v2).setCell ⟨g,3,none⟩ v3).setCell ⟨g,4,none⟩ v4):=by
 have h2:=aa0 w g 0 [v0,v1,v2,v3,v4] 0;exact ⟨hb.fill #[v0,v1,v2,v3,v4] rfl,⟨h2.os,h2.tape,h2.output,h2.size,fun q hq hn=>h2.block q hq fun e=>hn (by cases e;rfl)⟩,fun w0 k hg=>k.setCells hg [v0,v1,v2,v3,v4] 0⟩
end Go.Proofs.YthmhklmkgkfcpaaGreatDoor
namespace Go.Proofs.YthmhklmkgkfcpaaGreatDoor
open Go.RowKit Go.Maps
section
variable {P : Program} {k : TypeId} {w w' : World} {m n : Nat} {S : Sd → Prop}
variable {ops : Array Oper} {o : Oper} {a : Act} {K' : Act → World → Prop} {Q : Exit → Act → World → Prop} {e : TypeId} {E : Prop}
theorem ain (t:TypeId)(K:Keyed P k)(ht:P.underlying t=some (.map k e))(h:KM P k w m n S)(hn:n<maxLen)(s:Sd)(v:Value)(hkey:keyOf P k (.int .i64 s.node)=some (.int .i64 s.node))(hs:SdIn w v s):
  ∃ w',(Instr.mapUpdate t (.map (some m)) (.int .i64 s.node) v).run P w=.ok () w'∧KM P k w' m (n+1) (fun y=>y=s∨(S y∧y.node≠s.node))∧w.grownBy w' (some m):=by
 obtain ⟨⟨D,h1,h2,h3⟩,h4⟩:=h;have hns:=(KM.mk ⟨D,h1,h2,h3⟩ h4:KM P k w m n S).nosolid;obtain ⟨w',hrun,r1,r2⟩:=h1.update K ht hn hkey (show adx v=some (.held v,[]) from rfl);exact ⟨w',hrun,KM.put h4 h1.isMap h2 h3 (Cs.grown r2 hns) hs r1,r2⟩
theorem afC (t:TypeId)(K:Keyed P k)(ht:P.underlying t=some (.map k e)){z:Value}(hz:(zeroValue e).run P w=.ok z w)(h:KM P k w m n S)(s:Sd)(hs:S s)(hkey:keyOf P k (.int .i64 s.node)=some (.int .i64 s.node)):
  ∃ q,(Instr.lookup t (.map (some m)) (.int .i64 s.node) false).run P w=.ok (sdV s.node q) w∧Rd w q s.seed:=by
 obtain ⟨⟨D,h1,h2,h3⟩,h4⟩:=h;obtain ⟨v,c1,q,rfl,c2⟩:=h3 s hs;obtain ⟨v',ps,hrun,hv⟩:=h1.lookup K ht hz (R:=adx) (zd:=.held z) (zp:=[]) rfl hkey;have e1:DataW.held v'=.held (sdV s.node q):=by
  have:=congrArg (fun x=>x.map Prod.fst) hv;simpa [adx,c1] using this
 cases e1;exact ⟨q,hrun,c2⟩
end
def NoB8 (w:World)(g:Nat):Prop:=∀ (x:Addr) (n:Int),x.block=g→w.cell? x≠some (.int .u8 n)
theorem NoB8.map {w:World}{g:Nat}(h:¬abw w g):NoB8 w g:=fun x n e hc=>h (e▸abw.of_cell hc)
theorem NoB8.box {w:World}{g:Nat}{T:TypeId}{cs:Array Value}(h:Bx w g T cs)(hz:∀ (j:Nat) (z:Value),cs[j]?=some z→∀ n,z≠.int .u8 n):NoB8 w g:=fun x n e hc=>by
 subst e;unfold World.cell? at hc;have hb':w.heap[x.block]?=some (.cells cs T (0,0)):=h;rw[hb'] at hc;dsimp only at hc
 split at hc
 ·cases hc
 ·exact hz _ _ hc n rfl
theorem Rd.free8 {w:World}{g:Nat}{v:Value}{l:List UInt8}(h:Rd w v l)(hs:NoB8 w g):Free (fun k=>k=g) v:=fun x n c e h0 hk=>by
 obtain ⟨a',c',e',h1,h2,h3,h4⟩:=h;rw[e] at e';simp only[Value.slice.injEq] at e';obtain ⟨rfl,rfl,rfl⟩:=e';exact hs _ _ (by rw[aaI];exact hk) (h4 x rfl 0 h0)
theorem Rd.step8 {w w':World}{v:Value}{l:List UInt8}{Y:Nat→Prop}(h:Rd w v l)(hs:Step Y w w')(hY:∀ g,Y g→NoB8 w g):Rd w' v l:=
 h.stepF hs fun x n c e h0 hk=>h.free8 (hY _ hk) x n c e h0 rfl
theorem arZ.bytesAt {w:World}{v:Value}{l:List (List UInt8)}{Y:Nat→Prop}(h:arZ shBy w v l)(hY:∀ g,Y g→NoB8 w g)(hf:Free Y v){i:Nat}(hi:i<l.length):
  ∃ b off c q,v=.slice (some ⟨b,off,none⟩) l.length c∧(∀ x n c',q=.slice (some x) n c'→0<n→x.block<w.heap.size)∧∀ W,Step Y w W→W.cell? ⟨b,off+i,none⟩=some q∧Rd W q (bsAt l i):=by
 obtain ⟨b,off,c,q,e,hb,c0,r⟩:=arZ.bs h hi;exact ⟨b,off,c,q,e,r.inside,fun W hs=>⟨hs.cell c0 (fun hy=>hf ⟨b,off,none⟩ l.length c e (by omega) hy),r.step8 hs hY⟩⟩
structure arX (P:Program)(k:TypeId)(Z:Nat→Prop)(w:World)(m n:Nat)(S:Sd→Prop):Prop where
 mk ::
 ex:∃ D,w.ownsMap P k adx m n D∧(∀ x:Int,Maps.has D (.int .i64 x)=true↔∃ s,S s∧s.node=x)∧∀ s,S s→∃ q,(∀ zd,D.atKey (.int .i64 s.node) zd=.held (sdV s.node q))∧RZ Z w q s.seed
 one:∀ s s',S s→S s'→s.node=s'.node→s=s'
section
variable {P : Program} {k : TypeId} {Z : Nat → Prop} {w w' : World} {m n : Nat} {S : Sd → Prop}
theorem arX.km (h:arX P k Z w m n S):KM P k w m n S:=by
 obtain ⟨⟨D,h1,h2,h3⟩,h4⟩:=h;refine ⟨⟨D,h1,h2,fun s hs=>?_⟩,h4⟩;obtain ⟨q,a,b⟩:=h3 s hs;exact ⟨_,a,q,rfl,b.1⟩
theorem KM.kz (h:KM P k w m n S):arX P k (fun g=>w.heap.size≤g) w m n S:=by
 obtain ⟨⟨D,h1,h2,h3⟩,h4⟩:=h;refine ⟨⟨D,h1,h2,fun s hs=>?_⟩,h4⟩;obtain ⟨v,a,q,rfl,r⟩:=h3 s hs;exact ⟨q,a,r,fun x n c e h0 hk=>by have:=r.inside x n c e h0;omega⟩
theorem arX.mono {Z':Nat→Prop}(h:arX P k Z w m n S)(hz:∀ g,Z' g→Z g):arX P k Z' w m n S:=by
 obtain ⟨⟨D,h1,h2,h3⟩,h4⟩:=h;refine ⟨⟨D,h1,h2,fun s hs=>?_⟩,h4⟩;obtain ⟨q,a,r⟩:=h3 s hs;exact ⟨q,a,r.mono hz⟩
theorem arX.congr (h:arX P k Z w m n S){S':Sd→Prop}(hs:∀ s,S' s↔S s):arX P k Z w m n S':=by
 have:S'=S:=funext fun s=>propext (hs s)
 rw[this];exact h
theorem arX.olds (h:arX P k Z w m n S):arX P k (fun g=>Z g∨w.heap.size≤g) w m n S:=by
 obtain ⟨⟨D,h1,h2,h3⟩,h4⟩:=h;refine ⟨⟨D,h1,h2,fun s hs=>?_⟩,h4⟩;obtain ⟨q,a,r⟩:=h3 s hs;exact ⟨q,a,r.solid fun g hg=>hg.imp id fun hg hs=>by have:=hs.lt;omega⟩
theorem arX.step {Y:Nat→Prop}(h:arX P k Z w m n S)(hs:Step Y w w')(hY:∀ g,Y g→Z g∨NoB8 w g)(hm:¬Y m):arX P k Z w' m n S:=by
 have hl:=h.km.lt;obtain ⟨⟨D,⟨es,c,h1,h5⟩,h2,h3⟩,h4⟩:=h;refine ⟨⟨D,⟨es,c,(hs.block m hl hm).trans h1,h5⟩,h2,fun s hss=>?_⟩,h4⟩;obtain ⟨q,a,r⟩:=h3 s hss;exact ⟨q,a,r.1.stepF hs fun x n c e h0 hk=>(hY _ hk).elim (r.2 x n c e h0) fun h8=>r.1.free8 h8 x n c e h0 rfl,r.2⟩
theorem arX.kp (h:arX P k Z w m n S)(hk:Kp w w'):arX P k Z w' m n S:=h.step (Y:=fun _=>False) (Step.of_kp hk) (fun g hg=>hg.elim) (fun h=>h)
theorem arX.moved {v v':Value}(h:arX P k (fun g=>some g=v.ownBlock) w m n S)(hg:w.grownBy w' v.ownBlock)(hk:v'.ownBlock=v.ownBlock∨v'.ownBlock=some w.heap.size)(hm:some m≠v.ownBlock):arX P k (fun g=>some g=v'.ownBlock) w' m n S:=by
 have h2:=h.olds.step (Y:=fun g=>some g=v.ownBlock) ⟨hg.os,hg.tape,hg.output,hg.size,fun q hq hn=>hg.block q hq fun e=>hn e⟩ (fun g hg=>.inl (.inl hg)) hm;refine h2.mono fun g e=>?_
 rcases hk with hk | hk
 ·exact .inl (by rw[← hk];exact e)
 ·rw[hk] at e
  simp only[Option.some.injEq] at e;exact .inr (by omega)
theorem am0 {t e:TypeId}(K:Keyed P k)(ht:P.underlying t=some (.map k e))(h:arX P k Z w m n S)(hn:n<maxLen)(s:Sd)(q:Value)(hkey:keyOf P k (.int .i64 s.node)=some (.int .i64 s.node))(hs:RZ Z w q s.seed):
  ∃ w',(Instr.mapUpdate t (.map (some m)) (.int .i64 s.node) (.agg #[.int .i64 s.node,q])).run P w=.ok () w'∧arX P k Z w' m (n+1) (fun y=>y=s∨(S y∧y.node≠s.node))∧w.grownBy w' (some m):=by
 have hns:=h.km.nosolid;obtain ⟨⟨D,h1,h2,h3⟩,h4⟩:=h;obtain ⟨w',hrun,r1,r2⟩:=h1.update K ht hn hkey (show adx (.agg #[.int .i64 s.node,q])=some (.held (sdV s.node q),[]) from rfl);have hk:WideAt.IsKeyLit (.int .i64 s.node):=trivial;have hc:Cs w w':=Cs.grown r2 hns;have hkm:=KM.put (w:=w) (w':=w') (m:=m) (n:=n+1) h4 h1.isMap h2 (fun s hs=>by
  obtain ⟨q,a,b⟩:=h3 s hs;exact ⟨_,a,q,rfl,b.1⟩) hc ⟨q,rfl,hs.1⟩ r1
 refine ⟨w',hrun,⟨⟨_,r1,?_,fun y hy=>?_⟩,hkm.one⟩,r2⟩
 ·intro x
  by_cases e:x=s.node
  ·subst e
   rw[has_put_same h1.isMap hk];exact ⟨fun _=>⟨s,.inl rfl,rfl⟩,fun _=>rfl⟩
  ·rw[has_put_other (fun h=>e (by simpa using h)),h2 x]
   constructor
   ·rintro ⟨y,a,b⟩
    exact ⟨y,.inr ⟨a,by rw[b];exact e⟩,b⟩
   ·rintro ⟨y,a | ⟨a,_⟩,b⟩
    ·subst a;exact absurd b.symm e
    ·exact ⟨y,a,b⟩
 ·rcases hy with rfl | ⟨a,b⟩
  ·exact ⟨q,fun zd=>atKey_put_same h1.isMap hk _ zd,hs.1.cs hc,hs.2⟩
  ·obtain ⟨q',c1,c2⟩:=h3 y a
   refine ⟨q',fun zd=>?_,c2.1.cs hc,c2.2⟩;rw[atKey_put_other (fun h=>b (by simpa using h))];exact c1 zd
end
end Go.Proofs.YthmhklmkgkfcpaaGreatDoor
namespace Go.Proofs.YthmhklmkgkfcpaaGreatDoor
open Go.RowKit
section
variable {α : Type} {S : Sh α} {Z : Nat → Prop} {P : Program} {w : World} {t e : TypeId}
theorem ahJ (K:SK P t e S.k){ops:Array Oper}{o:Oper}{a:Act}{K':Act→World→Prop}{Q:Exit→Act→World→Prop}{E:Prop}(hg:o.guard=none)(s x:Operand)
  (ho:o.op=.call { callee:=.builtin .append,args:=#[s,x],argTypes:=#[t,t] })
  (B:Nat) (v:Value) (ts:List α) (hs:a.eval s=v) (hown:GZ S e Z w B v ts) (u:Value) (y:α) (hx:a.eval x=u) (hu:SE S (fun g=>some g=v.ownBlock∨Z g) w u [y]) (hlen:ts.length+1≤1000000) (hbase:B≤w.heap.size)
  (h:∀ v' w',GZ S e Z w' B v' (ts++[y])→w.grownBy w' v.ownBlock→(v'.ownBlock=v.ownBlock∨v'.ownBlock=some w.heap.size)→K' (a.put o.dst v') w'):if Region.wanted o (yielded ops a.tmps)=true then Oper.wp P o a w K' Q else E:=by
 have hw:Region.wanted o (yielded ops a.tmps)=true:=by simp[Region.wanted,hg]
 rw[if_pos hw];obtain ⟨i,z,hi,hz,hsize,hby,hzc⟩:=K.hi;obtain ⟨us,h1,h2,h3⟩:=hown;obtain ⟨ad,c,rfl,hc,hm,hnil,hcell⟩:=hu;have hbt:(ts.length+1)*i.bytes≤140737488355328:=by
  have:=Nat.mul_le_mul hlen hby;omega
 obtain ⟨b,off,rfl,_,hn⟩:=hcell (by simp);obtain ⟨news,n1,n2,n3,n4⟩:=SE.flat hn;obtain ⟨v',w',hrun,k1,k2,_,k4⟩:=run_append_own_at (P:=P) w B t o.type e i z S.k i.bytes K.ht hi hz hsize rfl hzc S.pos v ts.length us h1 ⟨b,off,none⟩ 1 c news n1 (fun j y hj=>by rw[Addr.add_mid];exact n3 j y hj) n2 (by unfold maxLen;omega) hbt hbase;have hK2:=h v' w' ⟨us++news,by rw[List.length_append];exact k1,fun y hy=>?_,fun j y hj=>?_⟩ k2 k4
 ·unfold Oper.wp
  simp[execOp,ho,resolve,invoke,builtin,hs,hx,hrun,Result.andThen];exact hK2
 ·rcases List.mem_append.1 hy with hy | hy
  ·exact h2 y hy
  ·exact n2 y hy
 ·have hul:=h1.1
  by_cases hjl:j<ts.length
  ·rw[List.getElem?_append_left hjl] at hj
   obtain ⟨vs,a1,a2⟩:=h3 j y hj;refine ⟨vs,fun f hf=>?_,Sh.moved a2 k2 k4⟩;have h5:(j+1)*S.k≤ts.length*S.k:=Nat.mul_le_mul_right _ hjl;rw[Nat.add_mul,Nat.one_mul] at h5;rw[List.getElem?_append_left (by rw[hul];omega)];exact a1 f hf
  ·rw[List.getElem?_append_right (by omega)] at hj
   obtain ⟨vs,a1,a2⟩:=n4 (j - ts.length) y hj;refine ⟨vs,fun f hf=>?_,Sh.moved a2 k2 k4⟩;have h5:ts.length*S.k≤j*S.k:=Nat.mul_le_mul_right _ (by omega);rw[List.getElem?_append_right (by rw[hul];omega),hul,← a1 f hf,Nat.sub_mul];congr 1
   omega
end
theorem arZ.old {α:Type}{S:Sh α}{w:World}{v:Value}{l:List α}(h:arZ S w v l):SZ S (fun g=>w.heap.size≤g) w v l:=
 ⟨SE.solidly h fun g hg=>.inr fun hs=>by have:=hs.lt;omega,fun x n c e h0 hk=>by have:=SE.inside h x n c e h0;omega⟩
theorem SZ.olds {α:Type}{S:Sh α}{Z:Nat→Prop}{w:World}{v:Value}{l:List α}(h:SZ S Z w v l):SZ S (fun g=>Z g∨w.heap.size≤g) w v l:=
 ⟨h.1.solidly fun g hg=>hg.imp id fun hg hs=>by have:=hs.lt;omega,fun x n c e h0 hk=>hk.elim (fun hk=>h.2 x n c e h0 hk) fun hk=>by have:=h.1.inside x n c e h0;omega⟩
theorem alj (v:Value)(t:List St)(Z:Nat→Prop)(w:World)(hv:SZ shSt Z w v t)(hl:t.length≤100000):
  Calls Tryz.prog 121 #[v] w fun e w'=>(∃ v',e=.returned v'∧GZ shSt 74 (fun g=>Z g∨w.heap.size<g) w' w.heap.size v' t)∧Kp w w':=by
 have q:∀ (w:World) (a:Option Addr) (n c n' c':Nat),(binOp .eql 25 (.slice a n c) (.slice none n' c')).run Tryz.prog w=.ok (.bool a.isNone) w:=fun w a n c n' c'=>Lib.run_eql_slice_nil w _ _ a n c n' c' Tryz.underlying25
 obtain ⟨a,c,rfl,hc,hm,hnil,hcell⟩:=id hv.1
 cases a with
 | none=>
  have hc0:=hnil rfl
  have hl0:t=[]:=List.eq_nil_of_length_eq_zero (by omega)
  subst hl0 hc0
  go_enter Tryz.func121,Tryz.ntmps121
  go_wp2_with fail
  go_ret
  exact ⟨⟨_,rfl,GZ.nil _ _ _⟩,Kp.refl _⟩
 | some a=>
  have HV:Hid (SE shSt (fun g=>some g=(Value.slice (some ⟨w.heap.size,0,none⟩) 0 0).ownBlock∨(Z g∨w.heap.size<g)) (w.alloc (.cells #[] 74)) (.slice (some a) t.length c) t):=
   (SZ.step (hv.olds) (Step.of_kp ((Kp.refl w).alloc _))).1.mono fun g hg=>hg.elim (fun e=>by simp[Value.ownBlock] at e;exact .inr (by omega)) fun h=>h.imp id fun h=>by omega
  have hlen:([]:List St).length+t.length≤1000000:=by simp;omega
  clear hv hcell hnil
  go_enter Tryz.func121,Tryz.ntmps121
  go_wp2_with (at_builtin;refine aaK (S:=shSt) (Z:=fun g=>Z g∨w.heap.size<g) stK rfl _ _ rfl w.heap.size _ [] rfl (GZ.empty _ w) _ t rfl HV.out hlen (by simp) ?_;intro v' w' o' g' _)
  go_ret
  exact ⟨⟨_,rfl,by simpa using o'⟩,Kp.grown (v:=.slice (some ⟨w.heap.size,0,none⟩) 0 0) ((Kp.refl _).alloc _) g' (by intro k hk;simp[Value.ownBlock] at hk;omega)⟩
theorem alk (v:Value)(t:List Se)(Z:Nat→Prop)(w:World)(hv:SZ shSe Z w v t)(hl:t.length≤100000):
  Calls Tryz.prog 122 #[v] w fun e w'=>(∃ v',e=.returned v'∧GZ shSe 92 (fun g=>Z g∨w.heap.size<g) w' w.heap.size v' t)∧Kp w w':=by
 have q:∀ (w:World) (a:Option Addr) (n c n' c':Nat),(binOp .eql 72 (.slice a n c) (.slice none n' c')).run Tryz.prog w=.ok (.bool a.isNone) w:=fun w a n c n' c'=>Lib.run_eql_slice_nil w _ _ a n c n' c' Tryz.underlying72
 obtain ⟨a,c,rfl,hc,hm,hnil,hcell⟩:=id hv.1
 cases a with
 | none=>
  have hc0:=hnil rfl
  have hl0:t=[]:=List.eq_nil_of_length_eq_zero (by omega)
  subst hl0 hc0
  go_enter Tryz.func122,Tryz.ntmps122
  go_wp2_with fail
  go_ret
  exact ⟨⟨_,rfl,GZ.nil _ _ _⟩,Kp.refl _⟩
 | some a=>
  have HV:Hid (SE shSe (fun g=>some g=(Value.slice (some ⟨w.heap.size,0,none⟩) 0 0).ownBlock∨(Z g∨w.heap.size<g)) (w.alloc (.cells #[] 92)) (.slice (some a) t.length c) t):=
   (SZ.step (hv.olds) (Step.of_kp ((Kp.refl w).alloc _))).1.mono fun g hg=>hg.elim (fun e=>by simp[Value.ownBlock] at e;exact .inr (by omega)) fun h=>h.imp id fun h=>by omega
  have hlen:([]:List Se).length+t.length≤1000000:=by simp;omega
  clear hv hcell hnil
  go_enter Tryz.func122,Tryz.ntmps122
  go_wp2_with (at_builtin;refine aaK (S:=shSe) (Z:=fun g=>Z g∨w.heap.size<g) seK rfl _ _ rfl w.heap.size _ [] rfl (GZ.empty _ w) _ t rfl HV.out hlen (by simp) ?_;intro v' w' o' g' _)
  go_ret
  exact ⟨⟨_,rfl,by simpa using o'⟩,Kp.grown (v:=.slice (some ⟨w.heap.size,0,none⟩) 0 0) ((Kp.refl _).alloc _) g' (by intro k hk;simp[Value.ownBlock] at hk;omega)⟩
end Go.Proofs.YthmhklmkgkfcpaaGreatDoor
