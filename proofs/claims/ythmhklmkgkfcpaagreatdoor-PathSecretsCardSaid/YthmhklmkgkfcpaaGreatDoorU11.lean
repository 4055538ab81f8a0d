import Derived.Test.YthmhklmkgkfcpaaGreatDoorU3
import Derived.Test.YthmhklmkgkfcpaaGreatDoorU10
import Derived.Maps.AppendAt
import Derived.Deep.MidRow
set_option linter.unusedVariables false
set_option linter.unusedSimpArgs false
set_option maxHeartbeats 8000000
set_option maxRecDepth 100000
namespace Go.Proofs.YthmhklmkgkfcpaaGreatDoor
open Go.RowKit
def nodC (n:Nod)(p u h:Value):List Value:=[.int .i64 n.kind,.int .i64 n.name,p,u,h]
structure NIn (w:World)(n:Nod)(p u h:Value):Prop where
 mk ::
 pub:Rd w p n.pub
 un:RI w u n.un
 hash:Rd w h n.hash
theorem NIn.kp {w w':World}{n:Nod}{p u h:Value}(i:NIn w n p u h)(k:Kp w w'):NIn w' n p u h:=⟨i.pub.kp k,i.un.kp k,i.hash.kp k⟩
def NV (w:World)(v:Value)(n:Nod):Prop:=∃ p u h,v=.agg (nodC n p u h).toArray∧NIn w n p u h
theorem aaP (w:World):Rd w (.slice none 0 0) []:=⟨none,0,rfl,Nat.le_refl _,Nat.zero_le _,fun _=>rfl,fun x hx=>by cases hx⟩
theorem NV.blank (w:World):NV w (.agg #[.int .i64 0,.int .i64 0,.slice none 0 0,.slice none 0 0,.slice none 0 0]) aan:=
 ⟨_,_,_,rfl,⟨aaP w,RI.nil w,aaP w⟩⟩
def NAt (w:World)(b o:Nat)(n:Nod)(p u h:Value):Prop:=w.rangeAt b o (nodC n p u h)∧NIn w n p u h
theorem NAt.kp {w w':World}{b o:Nat}{n:Nod}{p u h:Value}(i:NAt w b o n p u h)(k:Kp w w'):NAt w' b o n p u h:=
 ⟨fun j v hj=>k.cell (i.1 j v hj),i.2.kp k⟩
theorem NAt.kind {w:World}{b o:Nat}{n:Nod}{p u h:Value}(i:NAt w b o n p u h):w.cell? ⟨b,o,none⟩=some (.int .i64 n.kind):=i.1 0 _ rfl
theorem NAt.name {w:World}{b o:Nat}{n:Nod}{p u h:Value}(i:NAt w b o n p u h):w.cell? ⟨b,o+1,none⟩=some (.int .i64 n.name):=i.1 1 _ rfl
theorem NAt.pubC {w:World}{b o:Nat}{n:Nod}{p u h:Value}(i:NAt w b o n p u h):w.cell? ⟨b,o+2,none⟩=some p:=i.1 2 _ rfl
theorem NAt.unC {w:World}{b o:Nat}{n:Nod}{p u h:Value}(i:NAt w b o n p u h):w.cell? ⟨b,o+3,none⟩=some u:=i.1 3 _ rfl
theorem NAt.hashC {w:World}{b o:Nat}{n:Nod}{p u h:Value}(i:NAt w b o n p u h):w.cell? ⟨b,o+4,none⟩=some h:=i.1 4 _ rfl
def NL (w:World)(v:Value)(t:List Nod):Prop:=
 ∃ a c,v=.slice a t.length c∧t.length≤c∧c≤maxLen∧(a=none→c=0) ∧
  (0<t.length→∃ b off,a=some ⟨b,off,none⟩∧b<w.heap.size∧∀ i,i<t.length→∃ p u h,NAt w b (off+i*5) (ats t i) p u h)
theorem NL.kp {w w':World}{v:Value}{t:List Nod}(h:NL w v t)(k:Kp w w'):NL w' v t:=by
 obtain ⟨a,c,e,h1,h2,h3,h4⟩:=h;refine ⟨a,c,e,h1,h2,h3,fun h0=>?_⟩;obtain ⟨b,off,ha,hb,hi⟩:=h4 h0;refine ⟨b,off,ha,Nat.lt_of_lt_of_le hb k.size,fun i hi2=>?_⟩;obtain ⟨p,u,h,hn⟩:=hi i hi2;exact ⟨p,u,h,hn.kp k⟩
theorem NL.shape {w:World}{v:Value}{t:List Nod}(h:NL w v t):∃ a c,v=.slice a t.length c∧t.length≤c∧c≤maxLen:=by
 obtain ⟨a,c,e,h1,h2,_⟩:=h;exact ⟨a,c,e,h1,h2⟩
theorem NL.sl {w:World}{v:Value}{t:List Nod}(h:NL w v t):∃ a n c,v=.slice a n c:=by
 obtain ⟨a,c,e,_⟩:=h;exact ⟨_,_,_,e⟩
theorem NL.nil (w:World):NL w (.slice none 0 0) []:=⟨none,0,rfl,Nat.le_refl _,Nat.zero_le _,fun _=>rfl,fun h=>absurd h (by simp)⟩
theorem NL.at {w:World}{a:Option Addr}{n c:Nat}{t:List Nod}(h:NL w (.slice a n c) t)(k:Nat)(hk:k<n):
  ∃ b off,a=some ⟨b,off,none⟩∧b<w.heap.size∧∀ i,i<n→∃ p u h,NAt w b (off+i*5) (ats t i) p u h:=by
 obtain ⟨a',c',e,h1,h2,h3,h4⟩:=h;simp only[Value.slice.injEq] at e;obtain ⟨rfl,rfl,rfl⟩:=e;exact h4 (by omega)
theorem aaJ (a:Addr)(n:Nat):(a.add n).block=a.block:=by unfold Addr.add;split <;> rfl
def aap (v u:Value):Prop:=∀ g,v.ownBlock=some g→∀ x n c,u=.slice (some x) n c→0<n→x.block≠g
theorem aap.nil (v:Value)(a:Option Addr)(c:Nat):aap v (.slice a 0 c):=fun g hg x n c' e h=>by
 simp only[Value.slice.injEq] at e;omega
theorem Rd.apart {w:World}{v u:Value}{l:List UInt8}(h:Rd w u l)(hv:∀ g,v.ownBlock=some g→w.heap.size≤g):aap v u:=fun g hg x n c e h0 he=>by
 obtain ⟨a',c',e',h1,h2,h3,h4⟩:=h;rw[e] at e';simp only[Value.slice.injEq] at e';obtain ⟨rfl,rfl,rfl⟩:=e';have hb:=World.block_lt_of_cell? w _ (h4 x rfl 0 h0);rw[aaJ] at hb;have:=hv g hg;omega
theorem RI.apart {w:World}{v u:Value}{l:List Int}(h:RI w u l)(hv:∀ g,v.ownBlock=some g→w.heap.size≤g):aap v u:=fun g hg x n c e h0 he=>by
 obtain ⟨a',c',e',h1,h2,h3,h4⟩:=h;rw[e] at e';simp only[Value.slice.injEq] at e';obtain ⟨rfl,rfl,rfl⟩:=e';have hb:=World.block_lt_of_cell? w _ (h4 x rfl 0 h0);rw[aaJ] at hb;have:=hv g hg;omega
theorem OI.apart {e:TypeId}{w:World}{B:Nat}{v u:Value}{l:List Int}(h:OI e w B u l)(hv:∀ g,v.ownBlock=some g→g<B):aap v u:=fun g hg x n c e' h0 he=>by
 have h1:=hv g hg;have h2:=(h.lt x.block (by rw[e'];rfl)).1;omega
theorem Rd.grown9 {w w':World}{u v:Value}{l:List UInt8}(h:Rd w u l)(hg:w.grownBy w' v.ownBlock)(ha:aap v u):Rd w' u l:=by
 obtain ⟨a,c,e,h1,h2,h3,h4⟩:=h;subst e;refine ⟨a,c,rfl,h1,h2,h3,fun x hx i hi=>?_⟩;have hc:=h4 x hx i hi;subst hx;exact hg.cell hc fun e=>ha x.block (by rw[← e,aaJ]) x _ c rfl (by first | omega | (rw[List.length_map] at hi ⊢;omega)) rfl
theorem RI.grown9 {w w':World}{u v:Value}{l:List Int}(h:RI w u l)(hg:w.grownBy w' v.ownBlock)(ha:aap v u):RI w' u l:=by
 obtain ⟨a,c,e,h1,h2,h3,h4⟩:=h;subst e;refine ⟨a,c,rfl,h1,h2,h3,fun x hx i hi=>?_⟩;have hc:=h4 x hx i hi;subst hx;exact hg.cell hc fun e=>ha x.block (by rw[← e,aaJ]) x _ c rfl (by first | omega | (rw[List.length_map] at hi ⊢;omega)) rfl
theorem NIn.grown {w w':World}{v:Value}{n:Nod}{p u h:Value}(i:NIn w n p u h)(hg:w.grownBy w' v.ownBlock)(h1:aap v p)(h2:aap v u)(h3:aap v h):NIn w' n p u h:=
 ⟨i.pub.grown9 hg h1,i.un.grown9 hg h2,i.hash.grown9 hg h3⟩
def NO (e:TypeId)(w:World)(B:Nat)(v:Value)(t:List Nod):Prop:=
 ∃ us:List Value,w.ownsRow B e 5 v t.length us∧(∀ z∈us,z.oneCell'=true) ∧
  ∀ i,i<t.length→∃ p u h,(∀ f,f<5→us[i*5+f]?=(nodC (ats t i) p u h)[f]?)∧NIn w (ats t i) p u h∧aap v p∧aap v u∧aap v h
theorem NO.kp {e:TypeId}{w w':World}{B:Nat}{v:Value}{t:List Nod}(h:NO e w B v t)(k:Kp w w'):NO e w' B v t:=by
 obtain ⟨us,h1,h2,h3⟩:=h;refine ⟨us,adf h1 k,h2,fun i hi=>?_⟩;obtain ⟨p,u,h,a1,a2,a3⟩:=h3 i hi;exact ⟨p,u,h,a1,a2.kp k,a3⟩
theorem NO.lt {e:TypeId}{w:World}{B:Nat}{v:Value}{t:List Nod}(h:NO e w B v t):∀ k,v.ownBlock=some k→B≤k∧k<w.heap.size:=by
 obtain ⟨us,h1,_⟩:=h;exact fun k hk=>World.ownsRow.lt h1 k hk
theorem NO.form {e:TypeId}{w:World}{B:Nat}{v:Value}{t:List Nod}(h:NO e w B v t)(h0:0<t.length):
  ∃ g c,v=.slice (some ⟨g,0,none⟩) t.length c∧B≤g∧g<w.heap.size∧t.length≤c∧c≤maxLen ∧
   ∀ i,i<t.length→∃ p u h,NAt w g (i*5) (ats t i) p u h∧aap v p∧aap v u∧aap v h:=by
 obtain ⟨us,h1,h2,h3⟩:=h;have hlt:=fun k hk=>World.ownsRow.lt h1 k hk
 rcases id h1.2 with ⟨_,hn⟩ | ⟨g,cap,cur,rfl,hb,hg,hn,hm,hs,ht⟩
 ·omega
 ·refine ⟨g,cap,rfl,hb,(hlt g rfl).2,hn,hm,fun i hi=>?_⟩
  obtain ⟨p,u,h,a1,a2,a3⟩:=h3 i hi;refine ⟨p,u,h,⟨fun j x hj=>?_,a2⟩,a3⟩;have hjl:j<5:=(List.getElem?_eq_some_iff.1 hj).1;rw[h1.cellAt (i*5+j) (by omega),a1 j hjl];exact hj
theorem NO.nl {e:TypeId}{w:World}{B:Nat}{v:Value}{t:List Nod}(h:NO e w B v t):NL w v t:=by
 by_cases h0:0<t.length
 ·obtain ⟨g,c,rfl,hb,hg,h1,h2,h3⟩:=h.form h0
  refine ⟨_,c,rfl,h1,h2,fun h=>(by cases h),fun _=>⟨g,0,rfl,hg,fun i hi=>?_⟩⟩;rw[Nat.zero_add];obtain ⟨p,u,h,hn,_⟩:=h3 i hi;exact ⟨p,u,h,hn⟩
 ·have ht:t=[]:=List.eq_nil_of_length_eq_zero (by omega)
  subst ht;obtain ⟨us,h1,_⟩:=h;rcases h1.2 with ⟨rfl,_⟩ | ⟨g,cap,cur,rfl,hb,hg,hn,hm,hs,ht⟩
  ·exact NL.nil w
  ·exact ⟨_,cap,rfl,hn,hm,fun h=>(by cases h),fun h=>absurd h (by simp)⟩
theorem NO.empty (e:TypeId)(w:World):NO e (w.alloc (.cells #[] e)) w.heap.size (.slice (some ⟨w.heap.size,0,none⟩) 0 0) []:=
 ⟨[],World.ownsRow_lit w #[] 0 (Nat.le_refl _) (by unfold maxLen;omega) rfl,fun z hz=>by simp at hz,fun i hi=>by simp at hi⟩
theorem af4 {w:World}{n:Nod}{p u h:Value}(i:NIn w n p u h):∀ z∈nodC n p u h,z.oneCell'=true:=by
 obtain ⟨a1,n1,c1,rfl⟩:∃ a n c,p=.slice a n c:=by obtain ⟨a,c,e,_⟩:=i.pub.shape;exact ⟨_,_,_,e⟩
 obtain ⟨a2,n2,c2,rfl⟩:=i.un.sl;obtain ⟨a3,n3,c3,rfl⟩:∃ a n c,h=.slice a n c:=by obtain ⟨a,c,e,_⟩:=i.hash.shape;exact ⟨_,_,_,e⟩
 intro z hz;unfold nodC at hz;simp only[List.mem_cons,List.not_mem_nil,or_false] at hz;rcases hz with rfl | rfl | rfl | rfl | rfl <;> rfl
theorem NO.there {e:TypeId}{w:World}{B g c n:Nat}{t:List Nod}(h:NO e w B (.slice (some ⟨g,0,none⟩) n c) t)(i:Nat)(hi:i<t.length):w.there g (i*5) 5:=by
 obtain ⟨us,h1,h2,h3⟩:=h;have hn:t.length=n:=by
  rcases h1.2 with ⟨e,_⟩ | ⟨g',cap,cur,e,_⟩
  ·simp at e
  ·simp only[Value.slice.injEq] at e;exact e.2.1.symm
 subst hn;intro j hj;refine ⟨?_,h1.frozenAt _⟩;rw[h1.cellAt (i*5+j) (by omega),List.getElem?_eq_getElem (by rw[h1.1];omega)];rfl
theorem abE {e:TypeId}{B g n cap C:Nat}:∀ (vs:List Value) (o:Nat) (w:World) (xs:List Value),w.ownsRow B e C (.slice (some ⟨g,0,none⟩) n cap) n xs→o+vs.length≤xs.length →
  ∃ ys,(w.setCells g o vs).ownsRow B e C (.slice (some ⟨g,0,none⟩) n cap) n ys∧w.grownBy (w.setCells g o vs) (some g)∧ys.length=xs.length∧∀ k,ys[k]?=if o≤k∧k<o+vs.length then vs[k - o]? else xs[k]?
 | [],o,w,xs,h,_=>⟨xs,h,⟨rfl,rfl,rfl,Nat.le_refl _,fun _ _ _=>rfl⟩,rfl,fun k=>by rw[if_neg (by simp only[List.length_nil];omega)]⟩
 | v :: vs,o,w,xs,h,hl=>by
  obtain ⟨h1,g1⟩:=h.stored o v
  obtain ⟨ys,h2,g2,hl2,h3⟩:=abE vs (o+1) (w.setCell ⟨g,o,none⟩ v) (xs.set o v) h1 (by rw[List.length_set];simp at hl;omega)
  refine ⟨ys,h2,⟨g2.os.trans g1.os,g2.tape.trans g1.tape,g2.output.trans g1.output,Nat.le_trans g1.size g2.size,fun k hk hn=>(g2.block k (Nat.lt_of_lt_of_le hk g1.size) hn).trans (g1.block k hk hn)⟩,by rw[hl2,List.length_set],fun k=>?_⟩
  rw[h3 k]
  simp only[List.length_cons] at hl ⊢
  by_cases h4:o+1≤k∧k<o+1+vs.length
  ·rw[if_pos h4,if_pos ⟨by omega,by omega⟩,show k - o=(k - (o+1))+1 by omega,List.getElem?_cons_succ]
  ·rw[if_neg h4,List.getElem?_set]
   by_cases h5:o=k
   ·subst h5
    rw[if_pos rfl,if_pos (by omega),if_pos ⟨by omega,by omega⟩,Nat.sub_self]
    rfl
   ·rw[if_neg h5,if_neg (by omega)]
theorem NO.stored {e:TypeId}{w:World}{B g c n:Nat}{t:List Nod}(h:NO e w B (.slice (some ⟨g,0,none⟩) n c) t)(i:Nat)(hi:i<t.length)(m:Nod)(p u q:Value)(hin:NIn w m p u q)
  (h1:aap (.slice (some ⟨g,0,none⟩) n c) p) (h2:aap (.slice (some ⟨g,0,none⟩) n c) u) (h3:aap (.slice (some ⟨g,0,none⟩) n c) q):
  NO e (w.setCells g (i*5) (nodC m p u q)) B (.slice (some ⟨g,0,none⟩) n c) (t.set i m)∧w.grownBy (w.setCells g (i*5) (nodC m p u q)) (some g):=by
 obtain ⟨us,k1,k2,k3⟩:=h;have hn:t.length=n:=by
  rcases k1.2 with ⟨e,_⟩ | ⟨g',cap,cur,e,_⟩
  ·simp at e
  ·simp only[Value.slice.injEq] at e;exact e.2.1.symm
 subst hn;have hul:=k1.1;obtain ⟨ys,y1,y2,y3,y4⟩:=abE (nodC m p u q) (i*5) w us k1 (by rw[hul];show i*5+5≤_;omega);refine ⟨⟨ys,by rw[List.length_set];exact y1,fun z hz=>?_,fun k hk=>?_⟩,y2⟩
 ·obtain ⟨k,hk⟩:=List.getElem?_of_mem hz
  rw[y4] at hk;split at hk
  ·exact af4 hin z (List.mem_of_getElem? hk)
  ·exact k2 z (List.mem_of_getElem? hk)
 ·rw[List.length_set] at hk
  have e5:(nodC m p u q).length=5:=rfl;rw[abk t i m k hi];by_cases e1:k=i
  ·subst e1
   rw[if_pos rfl];refine ⟨p,u,q,fun f hf=>?_,hin.grown (v:=.slice (some ⟨g,0,none⟩) t.length c) y2 h1 h2 h3,h1,h2,h3⟩;rw[y4,e5,if_pos ⟨by omega,by omega⟩,Nat.add_sub_cancel_left]
  ·rw[if_neg e1]
   obtain ⟨p',u',q',a1,a2,a3,a4,a5⟩:=k3 k hk;refine ⟨p',u',q',fun f hf=>?_,a2.grown (v:=.slice (some ⟨g,0,none⟩) t.length c) y2 a3 a4 a5,a3,a4,a5⟩;rw[y4,e5,if_neg (by omega)];exact a1 f hf
structure S5 (P:Program)(t e:TypeId):Prop where
 mk ::
 ht:P.underlying t=some (.slice e)
 hi:∃ i z,P.info? e=some i∧i.zero=some z∧i.size=5∧i.bytes≤128∧z.cells.size=5
theorem S5.mk' {P:Program}{t e:TypeId}{z:Value}{b:Nat}(ht:P.underlying t=some (.slice e))(h:(P.info? e).map (fun i=>(i.zero,i.size,i.bytes))=some (some z,5,b))(hb:b≤128)(hz:z.cells.size=5):S5 P t e:=by
 obtain ⟨i,hi,hz0,hz1,hz2⟩:=info_parts h;exact ⟨ht,i,z,hi,hz0,hz1,by omega,hz⟩
def NAp (w:World)(v u:Value)(t:List Nod):Prop:=
 ∃ a c,u=.slice a t.length c∧t.length≤c∧c≤maxLen∧(a=none→c=0) ∧
  (0<t.length→∃ b off,a=some ⟨b,off,none⟩∧∀ i,i<t.length→∃ p u h,NAt w b (off+i*5) (ats t i) p u h∧aap v p∧aap v u∧aap v h)
theorem NL.apart {w w':World}{v u:Value}{t:List Nod}(h:NL w u t)(k:Kp w w')(hv:∀ g,v.ownBlock=some g→w.heap.size≤g):NAp w' v u t:=by
 obtain ⟨a,c,e,h1,h2,h3,h4⟩:=h;refine ⟨a,c,e,h1,h2,h3,fun h0=>?_⟩;obtain ⟨b,off,ha,_,hi⟩:=h4 h0;refine ⟨b,off,ha,fun i hi2=>?_⟩;obtain ⟨p,u,h,hn⟩:=hi i hi2;exact ⟨p,u,h,hn.kp k,hn.2.pub.apart hv,hn.2.un.apart hv,hn.2.hash.apart hv⟩
theorem NL.apart_blank {w:World}{v u:Value}{t:List Nod}(h:NL w u t)(hb:∀ i,ats t i=aan):NAp w v u t:=by
 obtain ⟨a,c,e,h1,h2,h3,h4⟩:=h;refine ⟨a,c,e,h1,h2,h3,fun h0=>?_⟩;obtain ⟨b,off,ha,_,hi⟩:=h4 h0;refine ⟨b,off,ha,fun i hi2=>?_⟩;obtain ⟨p,u,h,hn⟩:=hi i hi2;have e:=hb i;obtain ⟨a1,c1,e1,_⟩:=hn.2.pub.shape;obtain ⟨a2,c2,e2,_⟩:=hn.2.un.shape;obtain ⟨a3,c3,e3,_⟩:=hn.2.hash.shape;rw[e] at e1 e2 e3;refine ⟨p,u,h,hn,?_,?_,?_⟩
 ·rw[e1];exact aap.nil v a1 c1
 ·rw[e2];exact aap.nil v a2 c2
 ·rw[e3];exact aap.nil v a3 c3
theorem NAp.flat {w:World}{v:Value}{b off:Nat}{t:List Nod}(h:∀ i,i<t.length→∃ p u h,NAt w b (off+i*5) (ats t i) p u h∧aap v p∧aap v u∧aap v h):
  ∃ us:List Value,us.length=t.length*5∧(∀ z∈us,z.oneCell'=true)∧(∀ j z,us[j]?=some z→w.cell? ⟨b,off+j,none⟩=some z) ∧
   ∀ i,i<t.length→∃ p u h,(∀ f,f<5→us[i*5+f]?=(nodC (ats t i) p u h)[f]?)∧NIn w (ats t i) p u h∧aap v p∧aap v u∧aap v h:=by
 have key:∀ n,n≤t.length→∃ us:List Value,us.length=n*5∧(∀ z∈us,z.oneCell'=true)∧(∀ j z,us[j]?=some z→w.cell? ⟨b,off+j,none⟩=some z) ∧
   ∀ i,i<n→∃ p u h,(∀ f,f<5→us[i*5+f]?=(nodC (ats t i) p u h)[f]?)∧NIn w (ats t i) p u h∧aap v p∧aap v u∧aap v h:=by
  intro n;induction n with
  | zero=>exact fun _=>⟨[],rfl,fun z hz=>by simp at hz,fun j z hj=>by simp at hj,fun i hi=>by omega⟩
  | succ n ih=>
   intro hn;obtain ⟨us,l1,l2,l3,l4⟩:=ih (by omega);obtain ⟨p,u,q,⟨hc,hin⟩,hap⟩:=h n (by omega);have e5:(nodC (ats t n) p u q).length=5:=rfl;refine ⟨us++nodC (ats t n) p u q,by rw[List.length_append,l1,e5];omega,fun z hz=>?_,fun j z hj=>?_,fun i hi=>?_⟩
   ·rcases List.mem_append.1 hz with hz | hz
    ·exact l2 z hz
    ·exact af4 hin z hz
   ·by_cases hjl:j<us.length
    ·rw[List.getElem?_append_left hjl] at hj
     exact l3 j z hj
    ·rw[List.getElem?_append_right (by omega)] at hj
     have:=hc _ z hj;rw[l1] at this hjl;rwa [show off+n*5+(j - n*5)=off+j by omega] at this
   ·by_cases hin2:i<n
    ·obtain ⟨p',u',q',a1,a2⟩:=l4 i hin2
     refine ⟨p',u',q',fun f hf=>?_,a2⟩;rw[List.getElem?_append_left (by rw[l1];omega)];exact a1 f hf
    ·have:i=n:=by omega
     subst this;refine ⟨p,u,q,fun f hf=>?_,hin,hap⟩;rw[List.getElem?_append_right (by rw[l1];omega),l1,Nat.add_sub_cancel_left]
 exact key t.length (Nat.le_refl _)
theorem aap.moved {w:World}{v v' u:Value}{l:List UInt8}(h:aap v u)(hu:Rd w u l)(k:v'.ownBlock=v.ownBlock∨v'.ownBlock=some w.heap.size):aap v' u:=by
 rcases k with k | k
 ·exact fun g hg=>h g (k▸hg)
 ·exact hu.apart fun g hg=>by rw[k] at hg;cases hg;exact Nat.le_refl _
theorem aap.movedI {w:World}{v v' u:Value}{l:List Int}(h:aap v u)(hu:RI w u l)(k:v'.ownBlock=v.ownBlock∨v'.ownBlock=some w.heap.size):aap v' u:=by
 rcases k with k | k
 ·exact fun g hg=>h g (k▸hg)
 ·exact hu.apart fun g hg=>by rw[k] at hg;cases hg;exact Nat.le_refl _
theorem ap6 (t m:List Nod)(i:Nat):ats (t++m) i=if i<t.length then ats t i else ats m (i - t.length):=by
 unfold ats;rw[List.getD_eq_getElem?_getD];split
 ·next h=>rw[List.getElem?_append_left h,List.getD_eq_getElem?_getD]
 ·next h=>rw[List.getElem?_append_right (by omega),List.getD_eq_getElem?_getD]
theorem abG {P:Program}{w:World}{t e:TypeId}(S:S5 P t e){ops:Array Oper}{rest:List Oper}{o:Oper}{a:Act}{Q:Exit→Act→World→Prop}(hgd:o.guard=none)(s x:Operand)
  (ho:o.op=.call { callee:=.builtin .append,args:=#[s,x],argTypes:=#[t,t] })
  (B:Nat) (v:Value) (ts:List Nod) (hs:a.eval s=v) (hown:NO e w B v ts) (u:Value) (ms:List Nod) (hx:a.eval x=u) (hu:NAp w v u ms) (hlen:ts.length+ms.length≤1000000) (hbase:B≤w.heap.size)
  (h:∀ v' w',NO e w' B v' (ts++ms)→w.grownBy w' v.ownBlock→(v'.ownBlock=v.ownBlock∨v'.ownBlock=some w.heap.size)→wpList P ops Q rest (a.put o.dst v') w'):wpList P ops Q (o :: rest) a w:=by
 obtain ⟨i,z,hi,hz,hsize,hby,hzc⟩:=S.hi;obtain ⟨us,h1,h2,h3⟩:=hown;obtain ⟨ad,c,rfl,hc,hm,hnil,hcell⟩:=hu;by_cases h0:0<ms.length
 ·obtain ⟨b,off,rfl,hn⟩:=hcell h0
  obtain ⟨news,n1,n2,n3,n4⟩:=NAp.flat hn;refine wpList_append_own_at w hgd s x t ho B e i z 5 i.bytes S.ht hi hz hsize rfl hzc (by decide) v ts.length us hs h1 ⟨b,off,none⟩ ms.length c news hx n1 (fun j y hj=>?_) n2 (by unfold maxLen;omega) ?_ hbase
   (fun v' w' k1 k2 _ k4=>h v' w' ⟨us++news,by rw[List.length_append];exact k1,fun y hy=>?_,fun j hj=>?_⟩ k2 k4)
  ·rw[Addr.add_mid]
   exact n3 j y hj
  ·have:=Nat.mul_le_mul hlen hby
   omega
  ·rcases List.mem_append.1 hy with hy | hy
   ·exact h2 y hy
   ·exact n2 y hy
  ·have hul:=h1.1
   rw[ap6];by_cases hjl:j<ts.length
   ·rw[if_pos hjl]
    obtain ⟨p,q,r,a1,a2,a3,a4,a5⟩:=h3 j hjl;refine ⟨p,q,r,fun f hf=>?_,a2.grown k2 a3 a4 a5,a3.moved a2.pub k4,a4.movedI a2.un k4,a5.moved a2.hash k4⟩;rw[List.getElem?_append_left (by rw[hul];omega)];exact a1 f hf
   ·rw[if_neg hjl]
    rw[List.length_append] at hj;obtain ⟨p,q,r,a1,a2,a3,a4,a5⟩:=n4 (j - ts.length) (by omega);refine ⟨p,q,r,fun f hf=>?_,a2.grown k2 a3 a4 a5,a3.moved a2.pub k4,a4.movedI a2.un k4,a5.moved a2.hash k4⟩;rw[List.getElem?_append_right (by rw[hul];omega),hul,← a1 f hf];congr 1
    omega
 ·have hm0:ms=[]:=List.eq_nil_of_length_eq_zero (by omega)
  subst hm0;cases ad with
  | none=>
   have hc0:=hnil rfl;subst hc0;refine wpList_append_own_none hgd s x t ho B e i 5 S.ht hi v ts.length us hs h1 hx ?_;exact h v w ⟨us,by simpa using h1,h2,by simpa using h3⟩ ⟨rfl,rfl,rfl,Nat.le_refl _,fun _ _ _=>rfl⟩ (.inl rfl)
  | some ad=>
   refine wpList_append_own_at w hgd s x t ho B e i z 5 i.bytes S.ht hi hz hsize rfl hzc (by decide) v ts.length us hs h1 ad 0 c [] hx rfl (fun j y hj=>by simp at hj) (fun y hy=>by simp at hy) (by unfold maxLen;omega) ?_ hbase
    (fun v' w' k1 k2 _ k4=>h v' w' ⟨us,by simpa using k1,h2,fun j hj=>?_⟩ k2 k4)
   ·have:=Nat.mul_le_mul hlen hby
    simp only[List.length_nil] at this;omega
   ·rw[List.append_nil] at hj ⊢
    obtain ⟨p,q,r,a1,a2,a3,a4,a5⟩:=h3 j hj;exact ⟨p,q,r,a1,a2.grown k2 a3 a4 a5,a3.moved a2.pub k4,a4.movedI a2.un k4,a5.moved a2.hash k4⟩
theorem abY {P:Program}{w:World}{ty e:TypeId}(hsz:(P.info? ty).map (·.size)=some 5){ops:Array Oper}{rest:List Oper}{o:Oper}{a:Act}{Q:Exit→Act→World→Prop}(hgd:o.guard=none)(hd:o.dst=none)(x y:Operand)
  (ho:o.op=.store ty x y) (B g c n:Nat) (t:List Nod) (hown:NO e w B (.slice (some ⟨g,0,none⟩) n c) t) (i:Nat) (hi:i<t.length) (m:Nod) (p u q:Value)
  (hx:a.eval x=.pointer (some ⟨g,i*5,none⟩)) (hy:a.eval y=.agg #[.int .i64 m.kind,.int .i64 m.name,p,u,q]) (hin:NIn w m p u q)
  (h1:aap (.slice (some ⟨g,0,none⟩) n c) p) (h2:aap (.slice (some ⟨g,0,none⟩) n c) u) (h3:aap (.slice (some ⟨g,0,none⟩) n c) q)
  (h:∀ w',NO e w' B (.slice (some ⟨g,0,none⟩) n c) (t.set i m)→w.grownBy w' (some g)→wpList P ops Q rest a w'):wpList P ops Q (o :: rest) a w:=by
 obtain ⟨k1,k2⟩:=hown.stored i hi m p u q hin h1 h2 h3;refine wpList_store_mid hgd ty x y ho g (i*5) (nodC m p u q).toArray hx hy (hown.there i hi) hsz (all_oneCell_toArray (af4 hin)) ?_;rw[hd];exact h _ k1 k2
end Go.Proofs.YthmhklmkgkfcpaaGreatDoor
