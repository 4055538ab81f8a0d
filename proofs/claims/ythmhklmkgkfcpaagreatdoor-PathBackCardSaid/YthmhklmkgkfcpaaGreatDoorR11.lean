import Derived.Test.YthmhklmkgkfcpaaGreatDoorR5
import Derived.Test.YthmhklmkgkfcpaaGreatDoorR10
import Derived.Maps.AppendAt
import Derived.Deep.MidRow
set_option linter.unusedVariables false
set_option linter.unusedSimpArgs false
set_option maxHeartbeats 8000000
set_option maxRecDepth 100000
namespace Go.Proofs.YthmhklmkgkfcpaaGreatDoor
open Go.RowKit
def nodC (n:Nod)(p u h:Value):List Value:=[.int .i64 n.kind,.int .i64 n.name,p,u,h]
structure NIn (w:World)(n:Nod)(p u h:Value):Prop where
 mk ::
 pub:Rd w p n.pub
 un:RI w u n.un
 hash:Rd w h n.hash
theorem NIn.kp {w w':World}{n:Nod}{p u h:Value}(i:NIn w n p u h)(k:Kp w w'):NIn w' n p u h:=⟨i.pub.kp k,i.un.kp k,i.hash.kp k⟩
def NV (w:World)(v:Value)(n:Nod):Prop:=∃ p u h,v=.agg (nodC n p u h).toArray∧NIn w n p u h
theorem aaQ (w:World):Rd w (.slice none 0 0) []:=⟨none,0,rfl,Nat.le_refl _,Nat.zero_le _,fun _=>rfl,fun x hx=>by cases hx⟩
theorem NV.blank (w:World):NV w (.agg #[.int .i64 0,.int .i64 0,.slice none 0 0,.slice none 0 0,.slice none 0 0]) aao:=
 ⟨_,_,_,rfl,⟨aaQ w,RI.nil w,aaQ w⟩⟩
def NAt (w:World)(b o:Nat)(n:Nod)(p u h:Value):Prop:=w.rangeAt b o (nodC n p u h)∧NIn w n p u h
theorem NAt.kp {w w':World}{b o:Nat}{n:Nod}{p u h:Value}(i:NAt w b o n p u h)(k:Kp w w'):NAt w' b o n p u h:=
 ⟨fun j v hj=>k.cell (i.1 j v hj),i.2.kp k⟩
theorem NAt.kind {w:World}{b o:Nat}{n:Nod}{p u h:Value}(i:NAt w b o n p u h):w.cell? ⟨b,o,none⟩=some (.int .i64 n.kind):=i.1 0 _ rfl
theorem NAt.name {w:World}{b o:Nat}{n:Nod}{p u h:Value}(i:NAt w b o n p u h):w.cell? ⟨b,o+1,none⟩=some (.int .i64 n.name):=i.1 1 _ rfl
theorem NAt.pubC {w:World}{b o:Nat}{n:Nod}{p u h:Value}(i:NAt w b o n p u h):w.cell? ⟨b,o+2,none⟩=some p:=i.1 2 _ rfl
theorem NAt.unC {w:World}{b o:Nat}{n:Nod}{p u h:Value}(i:NAt w b o n p u h):w.cell? ⟨b,o+3,none⟩=some u:=i.1 3 _ rfl
theorem NAt.hashC {w:World}{b o:Nat}{n:Nod}{p u h:Value}(i:NAt w b o n p u h):w.cell? ⟨b,o+4,none⟩=some h:=i.1 4 _ rfl
def NL (w:World)(v:Value)(t:List Nod):Prop:=
 ∃ a c,v=.slice a t.length c∧t.length≤c∧c≤maxLen∧(a=none→c=0) ∧
  (0<t.length→∃ b off,a=some ⟨b,off,none⟩∧b<w.heap.size∧∀ i,i<t.length→∃ p u h,NAt w b (off+i*5) (ats t i) p u h)
theorem NL.kp {w w':World}{v:Value}{t:List Nod}(h:NL w v t)(k:Kp w w'):NL w' v t:=by
 obtain ⟨a,c,e,h1,h2,h3,h4⟩:=h;refine ⟨a,c,e,h1,h2,h3,fun h0=>?_⟩;obtain ⟨b,off,ha,hb,hi⟩:=h4 h0;refine ⟨b,off,ha,Nat.lt_of_lt_of_le hb k.size,fun i hi2=>?_⟩;obtain ⟨p,u,h,hn⟩:=hi i hi2;exact ⟨p,u,h,hn.kp k⟩
theorem NL.shape {w:World}{v:Value}{t:List Nod}(h:NL w v t):∃ a c,v=.slice a t.length c∧t.length≤c∧c≤maxLen:=by
 obtain ⟨a,c,e,h1,h2,_⟩:=h;exact ⟨a,c,e,h1,h2⟩
theorem NL.sl {w:World}{v:Value}{t:List Nod}(h:NL w v t):∃ a n c,v=.slice a n c:=by
 obtain ⟨a,c,e,_⟩:=h;exact ⟨_,_,_,e⟩
theorem NL.nil (w:World):NL w (.slice none 0 0) []:=⟨none,0,rfl,Nat.le_refl _,Nat.zero_le _,fun _=>rfl,fun h=>absurd h (by simp)⟩
theorem NL.at {w:World}{a:Option Addr}{n c:Nat}{t:List Nod}(h:NL w (.slice a n c) t)(k:Nat)(hk:k<n):
  ∃ b off,a=some ⟨b,off,none⟩∧b<w.heap.size∧∀ i,i<n→∃ p u h,NAt w b (off+i*5) (ats t i) p u h:=by
 obtain ⟨a',c',e,h1,h2,h3,h4⟩:=h;simp only[Value.slice.injEq] at e;obtain ⟨rfl,rfl,rfl⟩:=e;exact h4 (by omega)
theorem aaL (a:Addr)(n:Nat):(a.add n).block=a.block:=by unfold Addr.add;split <;> rfl
def aaq (v u:Value):Prop:=∀ g,v.ownBlock=some g→∀ x n c,u=.slice (some x) n c→0<n→x.block≠g
theorem aaq.nil (v:Value)(a:Option Addr)(c:Nat):aaq v (.slice a 0 c):=fun g hg x n c' e h=>by
 simp only[Value.slice.injEq] at e;omega
theorem Rd.apart {w:World}{v u:Value}{l:List UInt8}(h:Rd w u l)(hv:∀ g,v.ownBlock=some g→w.heap.size≤g):aaq v u:=fun g hg x n c e h0 he=>by
 obtain ⟨a',c',e',h1,h2,h3,h4⟩:=h;rw[e] at e';simp only[Value.slice.injEq] at e';obtain ⟨rfl,rfl,rfl⟩:=e';have hb:=World.block_lt_of_cell? w _ (h4 x rfl 0 h0);rw[aaL] at hb;have:=hv g hg;omega
theorem RI.apart {w:World}{v u:Value}{l:List Int}(h:RI w u l)(hv:∀ g,v.ownBlock=some g→w.heap.size≤g):aaq v u:=fun g hg x n c e h0 he=>by
 obtain ⟨a',c',e',h1,h2,h3,h4⟩:=h;rw[e] at e';simp only[Value.slice.injEq] at e';obtain ⟨rfl,rfl,rfl⟩:=e';have hb:=World.block_lt_of_cell? w _ (h4 x rfl 0 h0);rw[aaL] at hb;have:=hv g hg;omega
theorem OI.apart {e:TypeId}{w:World}{B:Nat}{v u:Value}{l:List Int}(h:OI e w B u l)(hv:∀ g,v.ownBlock=some g→g<B):aaq v u:=fun g hg x n c e' h0 he=>by
 have h1:=hv g hg;have h2:=(h.lt x.block (by rw[e'];rfl)).1;omega
theorem Rd.grown9 {w w':World}{u v:Value}{l:List UInt8}(h:Rd w u l)(hg:w.grownBy w' v.ownBlock)(ha:aaq v u):Rd w' u l:=by
 obtain ⟨a,c,e,h1,h2,h3,h4⟩:=h;subst e;refine ⟨a,c,rfl,h1,h2,h3,fun x hx i hi=>?_⟩;have hc:=h4 x hx i hi;subst hx;exact hg.cell hc fun e=>ha x.block (by rw[← e,aaL]) x _ c rfl (by first | omega | (rw[List.length_map] at hi ⊢;omega)) rfl
theorem RI.grown9 {w w':World}{u v:Value}{l:List Int}(h:RI w u l)(hg:w.grownBy w' v.ownBlock)(ha:aaq v u):RI w' u l:=by
 obtain ⟨a,c,e,h1,h2,h3,h4⟩:=h;subst e;refine ⟨a,c,rfl,h1,h2,h3,fun x hx i hi=>?_⟩;have hc:=h4 x hx i hi;subst hx;exact hg.cell hc fun e=>ha x.block (by rw[← e,aaL]) x _ c rfl (by first | omega | (rw[List.length_map] at hi ⊢;omega)) rfl
theorem NIn.grown {w w':World}{v:Value}{n:Nod}{p u h:Value}(i:NIn w n p u h)(hg:w.grownBy w' v.ownBlock)(h1:aaq v p)(h2:aaq v u)(h3:aaq v h):NIn w' n p u h:=
 ⟨i.pub.grown9 hg h1,i.un.grown9 hg h2,i.hash.grown9 hg h3⟩
def NO (e:TypeId)(w:World)(B:Nat)(v:Value)(t:List Nod):Prop:=
 ∃ us:List Value,w.ownsRow B e 5 v t.length us∧(∀ z∈us,z.oneCell'=true) ∧
  ∀ i,i<t.length→∃ p u h,(∀ f,f<5→us[i*5+f]?=(nodC (ats t i) p u h)[f]?)∧NIn w (ats t i) p u h∧aaq v p∧aaq v u∧aaq v h
theorem NO.kp {e:TypeId}{w w':World}{B:Nat}{v:Value}{t:List Nod}(h:NO e w B v t)(k:Kp w w'):NO e w' B v t:=by
 obtain ⟨us,h1,h2,h3⟩:=h;refine ⟨us,adk h1 k,h2,fun i hi=>?_⟩;obtain ⟨p,u,h,a1,a2,a3⟩:=h3 i hi;exact ⟨p,u,h,a1,a2.kp k,a3⟩
theorem NO.lt {e:TypeId}{w:World}{B:Nat}{v:Value}{t:List Nod}(h:NO e w B v t):∀ k,v.ownBlock=some k→B≤k∧k<w.heap.size:=by
 obtain ⟨us,h1,_⟩:=h;exact fun k hk=>World.ownsRow.lt h1 k hk
theorem NO.form {e:TypeId}{w:World}{B:Nat}{v:Value}{t:List Nod}(h:NO e w B v t)(h0:0<t.length):
  ∃ g c,v=.slice (some ⟨g,0,none⟩) t.length c∧B≤g∧g<w.heap.size∧t.length≤c∧c≤maxLen ∧
   ∀ i,i<t.length→∃ p u h,NAt w g (i*5) (ats t i) p u h∧aaq v p∧aaq v u∧aaq v h:=by
 obtain ⟨us,h1,h2,h3⟩:=h;have hlt:=fun k hk=>World.ownsRow.lt h1 k hk
 rcases id h1.2 with ⟨_,hn⟩ | ⟨g,cap,cur,rfl,hb,hg,hn,hm,hs,ht⟩
 ·omega
 ·refine ⟨g,cap,rfl,hb,(hlt g rfl).2,hn,hm,fun i hi=>?_⟩
  obtain ⟨p,u,h,a1,a2,a3⟩:=h3 i hi;refine ⟨p,u,h,⟨fun j x hj=>?_,a2⟩,a3⟩;have hjl:j<5:=(List.getElem?_eq_some_iff.1 hj).1;rw[h1.cellAt (i*5+j) (by omega),a1 j hjl];exact hj
theorem NO.nl {e:TypeId}{w:World}{B:Nat}{v:Value}{t:List Nod}(h:NO e w B v t):NL w v t:=by
 by_cases h0:0<t.length
 ·obtain ⟨g,c,rfl,hb,hg,h1,h2,h3⟩:=h.form h0
  refine ⟨_,c,rfl,h1,h2,fun h=>(by cases h),fun _=>⟨g,0,rfl,hg,fun i hi=>?_⟩⟩;rw[Nat.zero_add];obtain ⟨p,u,h,hn,_⟩:=h3 i hi;exact ⟨p,u,h,hn⟩
 ·have ht:t=[]:=List.eq_nil_of_length_eq_zero (by omega)
  subst ht;obtain ⟨us,h1,_⟩:=h;rcases h1.2 with ⟨rfl,_⟩ | ⟨g,cap,cur,rfl,hb,hg,hn,hm,hs,ht⟩
  ·exact NL.nil w
  ·exact ⟨_,cap,rfl,hn,hm,fun h=>(by cases h),fun h=>absurd h (by simp)⟩
theorem NO.empty (e:TypeId)(w:World):NO e (w.alloc (.cells #[] e)) w.heap.size (.slice (some ⟨w.heap.size,0,none⟩) 0 0) []:=
 ⟨[],World.ownsRow_lit w #[] 0 (Nat.le_refl _) (by unfold maxLen;omega) rfl,fun z hz=>by simp at hz,fun i hi=>by simp at hi⟩
theorem agb {w:World}{n:Nod}{p u h:Value}(i:NIn w n p u h):∀ z∈nodC n p u h,z.oneCell'=true:=by
 obtain ⟨a1,n1,c1,rfl⟩:∃ a n c,p=.slice a n c:=by obtain ⟨a,c,e,_⟩:=i.pub.shape;exact ⟨_,_,_,e⟩
 obtain ⟨a2,n2,c2,rfl⟩:=i.un.sl;obtain ⟨a3,n3,c3,rfl⟩:∃ a n c,h=.slice a n c:=by obtain ⟨a,c,e,_⟩:=i.hash.shape;exact ⟨_,_,_,e⟩
 intro z hz;unfold nodC at hz;simp only[List.mem_cons,List.not_mem_nil,or_false] at hz;rcases hz with rfl | rfl | rfl | rfl | rfl <;> rfl
theorem NO.there {e:TypeId}{w:World}{B g c n:Nat}{t:List Nod}(h:NO e w B (.slice (some ⟨g,0,none⟩) n c) t)(i:Nat)(hi:i<t.length):w.there g (i*5) 5:=by
 obtain ⟨us,h1,h2,h3⟩:=h;have hn:t.length=n:=by
  rcases h1.2 with ⟨e,_⟩ | ⟨g',cap,cur,e,_⟩
  ·simp at e
  ·simp only[Value.slice.injEq] at e;exact e.2.1.symm
 subst hn;intro j hj;refine ⟨?_,h1.frozenAt _⟩;rw[h1.cellAt (i*5+j) (by omega),List.getElem?_eq_getElem (by rw[h1.1];omega)];rfl
theorem abD {e:TypeId}{B g n cap C:Nat}:∀ (vs:List Value) (o:Nat) (w:World) (xs:List Value),w.ownsRow B e C (.slice (some ⟨g,0,none⟩) n cap) n xs→o+vs.length≤xs.length →
  ∃ ys,(w.setCells g o vs).ownsRow B e C (.slice (some ⟨g,0,none⟩) n cap) n ys∧w.grownBy (w.setCells g o vs) (some g)∧ys.length=xs.length∧∀ k,ys[k]?=if o≤k∧k<o+vs.length then vs[k - o]? else xs[k]?
 | [],o,w,xs,h,_=>⟨xs,h,⟨rfl,rfl,rfl,Nat.le_refl _,fun _ _ _=>rfl⟩,rfl,fun k=>by rw[if_neg (by simp only[List.length_nil];omega)]⟩
 | v :: vs,o,w,xs,h,hl=>by
  obtain ⟨h1,g1⟩:=h.stored o v
  obtain ⟨ys,h2,g2,hl2,h3⟩:=abD vs (o+1) (w.setCell ⟨g,o,none⟩ v) (xs.set o v) h1 (by rw[List.length_set];simp at hl;omega)
  refine ⟨ys,h2,⟨g2.os.trans g1.os,g2.tape.trans g1.tape,g2.output.trans g1.output,Nat.le_trans g1.size g2.size,fun k hk hn=>(g2.block k (Nat.lt_of_lt_of_le hk g1.size) hn).trans (g1.block k hk hn)⟩,by rw[hl2,List.length_set],fun k=>?_⟩
  rw[h3 k]
  simp only[List.length_cons] at hl ⊢
  by_cases h4:o+1≤k∧k<o+1+vs.length
  ·rw[if_pos h4,if_pos ⟨by omega,by omega⟩,show k - o=(k - (o+1))+1 by omega,List.getElem?_cons_succ]
  ·rw[if_neg h4,List.getElem?_set]
   by_cases h5:o=k
   ·subst h5
    rw[if_pos rfl,if_pos (by omega),if_pos ⟨by omega,by omega⟩,Nat.sub_self]
    rfl
   ·rw[if_neg h5,if_neg (by omega)]
theorem NO.stored {e:TypeId}{w:World}{B g c n:Nat}{t:List Nod}(h:NO e w B (.slice (some ⟨g,0,none⟩) n c) t)(i:Nat)(hi:i<t.length)(m:Nod)(p u q:Value)(hin:NIn w m p u q)
  (h1:aaq (.slice (some ⟨g,0,none⟩) n c) p) (h2:aaq (.slice (some ⟨g,0,none⟩) n c) u) (h3:aaq (.slice (some ⟨g,0,none⟩) n c) q):
  NO e (w.setCells g (i*5) (nodC m p u q)) B (.slice (some ⟨g,0,none⟩) n c) (t.set i m)∧w.grownBy (w.setCells g (i*5) (nodC m p u q)) (some g):=by
 obtain ⟨us,k1,k2,k3⟩:=h;have hn:t.length=n:=by
  rcases k1.2 with ⟨e,_⟩ | ⟨g',cap,cur,e,_⟩
  ·simp at e
  ·simp only[Value.slice.injEq] at e;exact e.2.1.symm
 subst hn;have hul:=k1.1;obtain ⟨ys,y1,y2,y3,y4⟩:=abD (nodC m p u q) (i*5) w us k1 (by rw[hul];show i*5+5≤_;omega);refine ⟨⟨ys,by rw[List.length_set];exact y1,fun z hz=>?_,fun k hk=>?_⟩,y2⟩
 ·obtain ⟨k,hk⟩:=List.getElem?_of_mem hz
  rw[y4] at hk;split at hk
  ·exact agb hin z (List.mem_of_getElem? hk)
  ·exact k2 z (List.mem_of_getElem? hk)
 ·rw[List.length_set] at hk
  have e5:(nodC m p u q).length=5:=rfl;rw[abl t i m k hi];by_cases e1:k=i
  ·subst e1
   rw[if_pos rfl];refine ⟨p,u,q,fun f hf=>?_,hin.grown (v:=.slice (some ⟨g,0,none⟩) t.length c) y2 h1 h2 h3,h1,h2,h3⟩;rw[y4,e5,if_pos ⟨by omega,by omega⟩,Nat.add_sub_cancel_left]
  ·rw[if_neg e1]
   obtain ⟨p',u',q',a1,a2,a3,a4,a5⟩:=k3 k hk;refine ⟨p',u',q',fun f hf=>?_,a2.grown (v:=.slice (some ⟨g,0,none⟩) t.length c) y2 a3 a4 a5,a3,a4,a5⟩;rw[y4,e5,if_neg (by omega)];exact a1 f hf
structure S5 (P:Program)(t e:TypeId):Prop where
 mk ::
 ht:P.underlying t=some (.slice e)
 hi:∃ i z,P.info? e=some i∧i.zero=some z∧i.size=5∧i.bytes≤128∧z.cells.size=5
theorem S5.mk' {P:Program}{t e:TypeId}{z:Value}{b:Nat}(ht:P.underlying t=some (.slice e))(h:(P.info? e).map (fun i=>(i.zero,i.size,i.bytes))=some (some z,5,b))(hb:b≤128)(hz:z.cells.size=5):S5 P t e:=by
 obtain ⟨i,hi,hz0,hz1,hz2⟩:=info_parts h;exact ⟨ht,i,z,hi,hz0,hz1,by omega,hz⟩
def NAp (w:World)(v u:Value)(t:List Nod):Prop:=
 ∃ a c,u=.slice a t.length c∧t.length≤c∧c≤maxLen∧(a=none→c=0) ∧
  (0<t.length→∃ b off,a=some ⟨b,off,none⟩∧∀ i,i<t.length→∃ p u h,NAt w b (off+i*5) (ats t i) p u h∧aaq v p∧aaq v u∧aaq v h)
theorem NL.apart {w w':World}{v u:Value}{t:List Nod}(h:NL w u t)(k:Kp w w')(hv:∀ g,v.ownBlock=some g→w.heap.size≤g):NAp w' v u t:=by
 obtain ⟨a,c,e,h1,h2,h3,h4⟩:=h;refine ⟨a,c,e,h1,h2,h3,fun h0=>?_⟩;obtain ⟨b,off,ha,_,hi⟩:=h4 h0;refine ⟨b,off,ha,fun i hi2=>?_⟩;obtain ⟨p,u,h,hn⟩:=hi i hi2;exact ⟨p,u,h,hn.kp k,hn.2.pub.apart hv,hn.2.un.apart hv,hn.2.hash.apart hv⟩
theorem NL.apart_blank {w:World}{v u:Value}{t:List Nod}(h:NL w u t)(hb:∀ i,ats t i=aao):NAp w v u t:=by
 obtain ⟨a,c,e,h1,h2,h3,h4⟩:=h;refine ⟨a,c,e,h1,h2,h3,fun h0=>?_⟩;obtain ⟨b,off,ha,_,hi⟩:=h4 h0;refine ⟨b,off,ha,fun i hi2=>?_⟩;obtain ⟨p,u,h,hn⟩:=hi i hi2;have e:=hb i;obtain ⟨a1,c1,e1,_⟩:=hn.2.pub.shape;obtain ⟨a2,c2,e2,_⟩:=hn.2.un.shape;obtain ⟨a3,c3,e3,_⟩:=hn.2.hash.shape;rw[e] at e1 e2 e3;refine ⟨p,u,h,hn,?_,?_,?_⟩
 ·rw[e1];exact aaq.nil v a1 c1
 ·rw[e2];exact aaq.nil v a2 c2
 ·rw[e3];exact aaq.nil v a3 c3
theorem NAp.flat {w:World}{v:Value}{b off:Nat}{t:List Nod}(h:∀ i,i<t.length→∃ p u h,NAt w b (off+i*5) (ats t i) p u h∧aaq v p∧aaq v u∧aaq v h):
  ∃ us:List Value,us.length=t.length*5∧(∀ z∈us,z.oneCell'=true)∧(∀ j z,us[j]?=some z→w.cell? ⟨b,off+j,none⟩=some z) ∧
   ∀ i,i<t.length→∃ p u h,(∀ f,f<5→us[i*5+f]?=(nodC (ats t i) p u h)[f]?)∧NIn w (ats t i) p u h∧aaq v p∧aaq v u∧aaq v h:=by
 have key:∀ n,n≤t.length→∃ us:List Value,us.length=n*5∧(∀ z∈us,z.oneCell'=true)∧(∀ j z,us[j]?=some z→w.cell? ⟨b,off+j,none⟩=some z) ∧
   ∀ i,i<n→∃ p u h,(∀ f,f<5→us[i*5+f]?=(nodC (ats t i) p u h)[f]?)∧NIn w (ats t i) p u h∧aaq v p∧aaq v u∧aaq v h:=by
  intro n;induction n with
  | zero=>exact fun _=>⟨[],rfl,fun z hz=>by simp at hz,fun j z hj=>by simp at hj,fun i hi=>by omega⟩
  | succ n ih=>
   intro hn;obtain ⟨us,l1,l2,l3,l4⟩:=ih (by omega);obtain ⟨p,u,q,⟨hc,hin⟩,hap⟩:=h n (by omega);have e5:(nodC (ats t n) p u q).length=5:=rfl;refine ⟨us++nodC (ats t n) p u q,by rw[List.length_append,l1,e5];omega,fun z hz=>?_,fun j z hj=>?_,fun i hi=>?_⟩
   ·rcases List.mem_append.1 hz with hz | hz
    ·exact l2 z hz
    ·exact agb hin z hz
   ·by_cases hjl:j<us.length
    ·rw[List.getElem?_append_left hjl] at hj
     exact l3 j z hj
    ·rw[List.getElem?_append_right (by omega)] at hj
     have:=hc _ z hj;rw[l1] at this hjl;rwa [show off+n*5+(j - n*5)=off+j by omega] at this
   ·by_cases hin2:i<n
    ·obtain ⟨p',u',q',a1,a2⟩:=l4 i hin2
     refine ⟨p',u',q',fun f hf=>?_,a2⟩;rw[List.getElem?_append_left (by rw[l1];omega)];exact a1 f hf
    ·have:i=n:=by omega
     subst this;refine ⟨p,u,q,fun f hf=>?_,hin,hap⟩;rw[List.getElem?_append_right (by rw[l1];omega),l1,Nat.add_sub_cancel_left]
 exact key t.length (Nat.le_refl _)
theorem aaq.moved {w:World}{v v' u:Value}{l:List UInt8}(h:aaq v u)(hu:Rd w u l)(k:v'.ownBlock=v.ownBlock∨v'.ownBlock=some w.heap.size):aaq v' u:=by
 rcases k with k | k
 ·exact fun g hg=>h g (k▸hg)
 ·exact hu.apart fun g hg=>by rw[k] at hg;cases hg;exact Nat.le_refl _
theorem aaq.movedI {w:World}{v v' u:Value}{l:List Int}(h:aaq v u)(hu:RI w u l)(k:v'.ownBlock=v.ownBlock∨v'.ownBlock=some w.heap.size):aaq v' u:=by
 rcases k with k | k
 ·exact fun g hg=>h g (k▸hg)
 ·exact hu.apart fun g hg=>by rw[k] at hg;cases hg;exact Nat.le_refl _
theorem aqu (t m:List Nod)(i:Nat):ats (t++m) i=if i<t.length then ats t i else ats m (i - t.length):=by
 unfold ats;rw[List.getD_eq_getElem?_getD];split
 ·next h=>rw[List.getElem?_append_left h,List.getD_eq_getElem?_getD]
 ·next h=>rw[List.getElem?_append_right (by omega),List.getD_eq_getElem?_getD]
theorem abG {P:Program}{w:World}{t e:TypeId}(S:S5 P t e){ops:Array Oper}{rest:List Oper}{o:Oper}{a:Act}{Q:Exit→Act→World→Prop}(hgd:o.guard=none)(s x:Operand)
  (ho:o.op=.call { callee:=.builtin .append,args:=#[s,x],argTypes:=#[t,t] })
  (B:Nat) (v:Value) (ts:List Nod) (hs:a.eval s=v) (hown:NO e w B v ts) (u:Value) (ms:List Nod) (hx:a.eval x=u) (hu:NAp w v u ms) (hlen:ts.length+ms.length≤1000000) (hbase:B≤w.heap.size)
  (h:∀ v' w',NO e w' B v' (ts++ms)→w.grownBy w' v.ownBlock→(v'.ownBlock=v.ownBlock∨v'.ownBlock=some w.heap.size)→wpList P ops Q rest (a.put o.dst v') w'):wpList P ops Q (o :: rest) a w:=by
 obtain ⟨i,z,hi,hz,hsize,hby,hzc⟩:=S.hi;obtain ⟨us,h1,h2,h3⟩:=hown;obtain ⟨ad,c,rfl,hc,hm,hnil,hcell⟩:=hu;by_cases h0:0<ms.length
 ·obtain ⟨b,off,rfl,hn⟩:=hcell h0
  obtain ⟨news,n1,n2,n3,n4⟩:=NAp.flat hn;refine wpList_append_own_at w hgd s x t ho B e i z 5 i.bytes S.ht hi hz hsize rfl hzc (by decide) v ts.length us hs h1 ⟨b,off,none⟩ ms.length c news hx n1 (fun j y hj=>?_) n2 (by unfold maxLen;omega) ?_ hbase
   (fun v' w' k1 k2 _ k4=>h v' w' ⟨us++news,by rw[List.length_append];exact k1,fun y hy=>?_,fun j hj=>?_⟩ k2 k4)
  ·rw[Addr.add_mid]
   exact n3 j y hj
  ·have:=Nat.mul_le_mul hlen hby
   omega
  ·rcases List.mem_append.1 hy with hy | hy
   ·exact h2 y hy
   ·exact n2 y hy
  ·have hul:=h1.1
   rw[aqu];by_cases hjl:j<ts.length
   ·rw[if_pos hjl]
    obtain ⟨p,q,r,a1,a2,a3,a4,a5⟩:=h3 j hjl;refine ⟨p,q,r,fun f hf=>?_,a2.grown k2 a3 a4 a5,a3.moved a2.pub k4,a4.movedI a2.un k4,a5.moved a2.hash k4⟩;rw[List.getElem?_append_left (by rw[hul];omega)];exact a1 f hf
   ·rw[if_neg hjl]
    rw[List.length_append] at hj;obtain ⟨p,q,r,a1,a2,a3,a4,a5⟩:=n4 (j - ts.length) (by omega);refine ⟨p,q,r,fun f hf=>?_,a2.grown k2 a3 a4 a5,a3.moved a2.pub k4,a4.movedI a2.un k4,a5.moved a2.hash k4⟩;rw[List.getElem?_append_right (by rw[hul];omega),hul,← a1 f hf];congr 1
    omega
 ·have hm0:ms=[]:=List.eq_nil_of_length_eq_zero (by omega)
  subst hm0;cases ad with
  | none=>
   have hc0:=hnil rfl;subst hc0;refine wpList_append_own_none hgd s x t ho B e i 5 S.ht hi v ts.length us hs h1 hx ?_;exact h v w ⟨us,by simpa using h1,h2,by simpa using h3⟩ ⟨rfl,rfl,rfl,Nat.le_refl _,fun _ _ _=>rfl⟩ (.inl rfl)
  | some ad=>
   refine wpList_append_own_at w hgd s x t ho B e i z 5 i.bytes S.ht hi hz hsize rfl hzc (by decide) v ts.length us hs h1 ad 0 c [] hx rfl (fun j y hj=>by simp at hj) (fun y hy=>by simp at hy) (by unfold maxLen;omega) ?_ hbase
    (fun v' w' k1 k2 _ k4=>h v' w' ⟨us,by simpa using k1,h2,fun j hj=>?_⟩ k2 k4)
   ·have:=Nat.mul_le_mul hlen hby
    simp only[List.length_nil] at this;omega
   ·rw[List.append_nil] at hj ⊢
    obtain ⟨p,q,r,a1,a2,a3,a4,a5⟩:=h3 j hj;exact ⟨p,q,r,a1,a2.grown k2 a3 a4 a5,a3.moved a2.pub k4,a4.movedI a2.un k4,a5.moved a2.hash k4⟩
theorem abW {P:Program}{w:World}{ty e:TypeId}(hsz:(P.info? ty).map (·.size)=some 5){ops:Array Oper}{rest:List Oper}{o:Oper}{a:Act}{Q:Exit→Act→World→Prop}(hgd:o.guard=none)(hd:o.dst=none)(x y:Operand)
  (ho:o.op=.store ty x y) (B g c n:Nat) (t:List Nod) (hown:NO e w B (.slice (some ⟨g,0,none⟩) n c) t) (i:Nat) (hi:i<t.length) (m:Nod) (p u q:Value)
  (hx:a.eval x=.pointer (some ⟨g,i*5,none⟩)) (hy:a.eval y=.agg #[.int .i64 m.kind,.int .i64 m.name,p,u,q]) (hin:NIn w m p u q)
  (h1:aaq (.slice (some ⟨g,0,none⟩) n c) p) (h2:aaq (.slice (some ⟨g,0,none⟩) n c) u) (h3:aaq (.slice (some ⟨g,0,none⟩) n c) q)
  (h:∀ w',NO e w' B (.slice (some ⟨g,0,none⟩) n c) (t.set i m)→w.grownBy w' (some g)→wpList P ops Q rest a w'):wpList P ops Q (o :: rest) a w:=by
 obtain ⟨k1,k2⟩:=hown.stored i hi m p u q hin h1 h2 h3;refine wpList_store_mid hgd ty x y ho g (i*5) (nodC m p u q).toArray hx hy (hown.there i hi) hsz (all_oneCell_toArray (agb hin)) ?_;rw[hd];exact h _ k1 k2
theorem agU (x:Int)(w:World):Calls Tryz.prog 34 #[.int .i64 x] w fun e w'=>e=.returned (.tuple #[.int .i64 (lefV x),.int .i64 (chE x)])∧w=w':=by
 have HLV:=Lib.hid (adO x w);by_cases h:levV x=0
 ·rw[show lefV x=0 from if_pos h,show chE x=1 from if_pos h]
  rw[h] at HLV;clear h;go_enter Tryz.func34,Tryz.ntmps34;go_wp2_with fail;refine HLV.out.mono ?_;rintro _ _ ⟨rfl,rfl⟩;go_wp2_with fail;go_ret2;exact ⟨rfl,rfl⟩
 ·have hok:okN x:=by
   by_cases h2:okN x
   ·exact h2
   ·exact absurd (agr h2) h
  obtain ⟨j,q,rfl,hj,hq⟩:=(aaJ x).1 hok;have hb:=(aaJ ((nd j q:Nat):Int)).2 ⟨j,q,rfl,hj,hq⟩;rw[abF hj hq] at h HLV;cases j with
  | zero=>exact absurd rfl h
  | succ j=>
   obtain ⟨e1,e2,e3⟩:=aeg (j:=j) hj hq;rw[e1,e2];have HH:=Lib.hid (afG j w (by omega));have hp:(2:Nat) ^ j≤2 ^ 10:=Nat.pow_le_pow_right (by omega) (by omega);have hl:=afh j q;have hr:=aec j q;have i1:IntKind.i64.wrap (((j+1:Nat):Int) - 1)=(j:Int):=by rw[IntWalk.i64_in _ (by omega)];omega
   obtain ⟨M,hM⟩:∃ M,2 ^ j=M:=⟨_,rfl⟩;rw[hM] at HH hp hl hr;have i2:IntKind.i64.wrap (((nd (j+1) q:Nat):Int) - (M:Int))=((nd j (2*q):Nat):Int):=by rw[IntWalk.i64_in _ (by omega)];omega
   have i3:(((j+1:Nat):Int)==0)=false:=beq_eq_false_iff_ne.2 (by omega);have i4:¬((j+1:Nat):Int)=0:=by omega
   generalize ((nd (j+1) q:Nat):Int)=X at *;generalize ((nd j (2*q):Nat):Int)=Y at *;generalize ((j+1:Nat):Int)=J at *;clear h hok hb e1 e2 e3 hp hl hr hM hj hq;go_enter Tryz.func34,Tryz.ntmps34;go_wp2_with fail;refine HLV.out.mono ?_;rintro _ _ ⟨rfl,rfl⟩;go_wp2_with fail;refine HH.out.mono ?_;rintro _ _ ⟨rfl,rfl⟩;go_wp2_with fail;go_ret2;exact ⟨rfl,rfl⟩
theorem afM (x:Int)(w:World):Calls Tryz.prog 35 #[.int .i64 x] w fun e w'=>e=.returned (.tuple #[.int .i64 (rigV x),.int .i64 (chE x)])∧w=w':=by
 have HLV:=Lib.hid (adO x w);by_cases h:levV x=0
 ·rw[show rigV x=0 from if_pos h,show chE x=1 from if_pos h]
  rw[h] at HLV;clear h;go_enter Tryz.func35,Tryz.ntmps35;go_wp2_with fail;refine HLV.out.mono ?_;rintro _ _ ⟨rfl,rfl⟩;go_wp2_with fail;go_ret2;exact ⟨rfl,rfl⟩
 ·have hok:okN x:=by
   by_cases h2:okN x
   ·exact h2
   ·exact absurd (agr h2) h
  obtain ⟨j,q,rfl,hj,hq⟩:=(aaJ x).1 hok;have hb:=(aaJ ((nd j q:Nat):Int)).2 ⟨j,q,rfl,hj,hq⟩;rw[abF hj hq] at h HLV;cases j with
  | zero=>exact absurd rfl h
  | succ j=>
   obtain ⟨e1,e2,e3⟩:=aeg (j:=j) hj hq;rw[e1,e3];have HH:=Lib.hid (afG j w (by omega));have hp:(2:Nat) ^ j≤2 ^ 10:=Nat.pow_le_pow_right (by omega) (by omega);have hl:=afh j q;have hr:=aec j q;have i1:IntKind.i64.wrap (((j+1:Nat):Int) - 1)=(j:Int):=by rw[IntWalk.i64_in _ (by omega)];omega
   obtain ⟨M,hM⟩:∃ M,2 ^ j=M:=⟨_,rfl⟩;rw[hM] at HH hp hl hr;have i2:IntKind.i64.wrap (((nd (j+1) q:Nat):Int)+(M:Int))=((nd j (2*q+1):Nat):Int):=by rw[IntWalk.i64_in _ (by omega)];omega
   have i3:(((j+1:Nat):Int)==0)=false:=beq_eq_false_iff_ne.2 (by omega);have i4:¬((j+1:Nat):Int)=0:=by omega
   generalize ((nd (j+1) q:Nat):Int)=X at *;generalize ((nd j (2*q+1):Nat):Int)=Y at *;generalize ((j+1:Nat):Int)=J at *;clear h hok hb e1 e2 e3 hp hl hr hM hj hq;go_enter Tryz.func35,Tryz.ntmps35;go_wp2_with fail;refine HLV.out.mono ?_;rintro _ _ ⟨rfl,rfl⟩;go_wp2_with fail;refine HH.out.mono ?_;rintro _ _ ⟨rfl,rfl⟩;go_wp2_with fail;go_ret2;exact ⟨rfl,rfl⟩
theorem aps (p:Int):chE p=1∨chE p=0:=by unfold chE;split <;> simp
theorem aoc {j q:Nat}(p:Nat)(hp:p≤2046)(hj:j≤10):
  (chE (p:Int)=0∧(lefV (p:Int)=((nd j q:Nat):Int)∨rigV (p:Int)=((nd j q:Nat):Int)))↔p=nd (j+1) (q / 2):=by
 obtain ⟨i,r,e,hi,hr⟩:=ait 10 p (by omega)
 subst e
 cases i with
 | zero=>
  obtain ⟨e1,e2,e3⟩:=aql (q:=r) (by simpa using hr)
  rw[e1]
  constructor
  ·rintro ⟨h,_⟩;omega
  ·intro h;exact absurd (aeI h).1 (by omega)
 | succ i=>
  obtain ⟨e1,e2,e3⟩:=aeg (j:=i) hi hr
  rw[e1,e2,e3]
  constructor
  ·rintro ⟨_,h | h⟩
   ·obtain ⟨rfl,rfl⟩:=aeI (Int.ofNat.inj h)
    congr 1;omega
   ·obtain ⟨rfl,rfl⟩:=aeI (Int.ofNat.inj h)
    congr 1;omega
  ·intro h
   obtain ⟨h1,h2⟩:=aeI h
   obtain rfl:i=j:=by omega
   refine ⟨rfl,?_⟩
   by_cases h3:q % 2=0
   ·left;congr 2;omega
   ·right;congr 2;omega
theorem aiH (X n:Int)(W T:Nat)(w:World)(hn:IntKind.i64.wrap (2*n)=2*n)(hW:2*n - 1=(W:Int))(hWb:W≤2047)(hin:inB X n=true)(hn2:-9223372036854775808≤n∧n≤9223372036854775807)
  (hm:∀ p:Nat,p≤2046→((chE (p:Int)=0∧(lefV (p:Int)=X∨rigV (p:Int)=X))↔p=T)):
  Calls Tryz.prog 80 #[.int .i64 X,.int .i64 n] w fun e w'=>e=.returned (if T<W then .tuple #[.int .i64 (T:Int),.int .i64 0] else .tuple #[.int .i64 0,.int .i64 11])∧w=w':=by
 have HN:=Lib.hid (adj X n w hn2);rw[hin] at HN;have HM:=Lib.hid hm;have HL:=Lib.hid (fun (p:Nat)=>agU (p:Int) w);have HR:=Lib.hid (fun (p:Nat)=>afM (p:Int) w);have i1:IntKind.i64.wrap (2*n - 1)=(W:Int):=by rw[hW];exact IntWalk.i64_in _ (by omega)
 have i0:IntKind.i64.wrap (W:Int)=(W:Int):=IntWalk.i64_in _ (by omega);obtain ⟨V,hV⟩:∃ V,(if T<W then (.tuple #[.int .i64 (T:Int),.int .i64 0]:Value) else .tuple #[.int .i64 0,.int .i64 11])=V:=⟨_,rfl⟩;rw[hV];have HV:=Lib.hid hV;have HT:=Lib.hid (Nat.lt_or_ge T W);clear hm hin hn2 hV;go_enter Tryz.func80,Tryz.ntmps80;go_wp2_with fail;refine HN.out.mono ?_;rintro _ _ ⟨rfl,rfl⟩;clear HN;go_wp2_with fail;go_loop [7] (fun y=>∃ p:Nat,p≤W∧p≤T∧y=.int .i64 (p:Int)) (fun y=>(W - (intOf y).toNat))
 case atStart=>exact ⟨0,Nat.zero_le _,Nat.zero_le _,rfl⟩
 case round=>
  obtain ⟨p,hp,hpT,rfl⟩:=hrel;by_cases hlt:p<W
  ·have hltI:(p:Int)<(W:Int):=by omega
   have hmp:=HM.out p (by omega);have HLp:=Lib.hid (HL.out p);have HRp:=Lib.hid (HR.out p);have i2:IntKind.i64.wrap ((p:Int)+1)=(p:Int)+1:=IntWalk.i64_in _ (by omega);have hE:=aps (p:Int);clear HM HL HR hW;generalize chE (p:Int)=E at *;generalize lefV (p:Int)=L at *;generalize rigV (p:Int)=R at *;by_cases he:p=T
   ·obtain ⟨h1,h2⟩:=hmp.2 he
    have HV2:Hid (V=.tuple #[.int .i64 (p:Int),.int .i64 0]):=by have:=HV.out;rw[if_pos (by omega)] at this;rw[he];exact this.symm
    subst h1;clear hmp hE HV HT he hpT;by_cases h3:L=X
    ·subst h3
     clear h2;go_wp2_with fail;refine HLp.out.mono ?_;rintro _ _ ⟨rfl,rfl⟩;go_wp2_with fail;refine HRp.out.mono ?_;rintro _ _ ⟨rfl,rfl⟩;go_wp2;go_ret2;exact ⟨by rw[HV2.out] <;> rfl,rfl⟩
    ·have h4:R=X:=h2.resolve_left h3
     subst h4;have b1:(L==R)=false:=beq_eq_false_iff_ne.2 h3;clear h2;go_wp2_with fail;refine HLp.out.mono ?_;rintro _ _ ⟨rfl,rfl⟩;go_wp2_with fail;refine HRp.out.mono ?_;rintro _ _ ⟨rfl,rfl⟩;go_wp2;go_ret2;exact ⟨by rw[HV2.out] <;> rfl,rfl⟩
   ·have hno:¬(E=0∧(L=X∨R=X)):=fun h=>he (hmp.1 h)
    have hpT2:p+1≤T:=by omega
    clear hmp HV HT he hpT;rcases hE with h1 | h1
    ·subst h1
     clear hno;go_wp2_with fail;refine HLp.out.mono ?_;rintro _ _ ⟨rfl,rfl⟩;go_wp2_with fail;refine HRp.out.mono ?_;rintro _ _ ⟨rfl,rfl⟩;go_wp2;go_round
     case rel=>exact ⟨p+1,by omega,hpT2,by go_num⟩
     case measure=>simp[intOf];omega
    ·subst h1
     have h3:¬L=X:=fun h=>hno ⟨rfl,.inl h⟩
     have h4:¬R=X:=fun h=>hno ⟨rfl,.inr h⟩
     have b1:(L==X)=false:=beq_eq_false_iff_ne.2 h3;have b2:(R==X)=false:=beq_eq_false_iff_ne.2 h4;clear hno;go_wp2_with fail;refine HLp.out.mono ?_;rintro _ _ ⟨rfl,rfl⟩;go_wp2_with fail;refine HRp.out.mono ?_;rintro _ _ ⟨rfl,rfl⟩;go_wp2;go_round
     case rel=>exact ⟨p+1,by omega,hpT2,by go_num⟩
     case measure=>simp[intOf];omega
  ·obtain rfl:p=W:=by omega
   have HV2:Hid (V=.tuple #[.int .i64 0,.int .i64 11]):=by have:=HV.out;rw[if_neg (by omega)] at this;exact this.symm
   clear HM HL HR HV HT hW hpT;go_wp2;go_ret2;exact ⟨by rw[HV2.out] <;> rfl,rfl⟩
theorem aiI (x n:Int)(w:World)(hn2:-9223372036854775808≤n∧n≤9223372036854775807):Calls Tryz.prog 80 #[.int .i64 x,.int .i64 n] w fun e w'=>e=.returned (.tuple #[.int .i64 (paV x n),.int .i64 (paE x n)])∧w=w':=by
 by_cases h:inB x n=true
 ·obtain ⟨K,j,q,hK,rfl,rfl,hj,hq⟩:=(adN x n).1 h
  obtain ⟨_,hj10,hq10⟩:=abn hK hj hq;have h1:=acd hK;have h2:=aaC K;have h3:=aam K;obtain ⟨W,hW⟩:∃ W,2 ^ (K+1) - 1=W:=⟨_,rfl⟩;have:=aiH ((nd j q:Nat):Int) ((2 ^ K:Nat):Int) W (nd (j+1) (q / 2)) w (IntWalk.i64_in _ (by omega)) (by omega) (by omega) h hn2 (fun p hp=>aoc p hp hj10);refine this.mono ?_;rintro _ _ ⟨rfl,rfl⟩;by_cases hr:j=K
  ·subst hr
   have hq0:q=0:=by simp at hq;exact hq
   subst hq0;obtain ⟨e1,e2,_⟩:=aqn hK;rw[e1,e2,if_neg]
   ·exact ⟨rfl,rfl⟩
   ·intro hlt
    rw[← hW] at hlt;have:=(nd_in hlt).1;omega
  ·obtain ⟨e1,e2,_⟩:=ap8 (K:=K) (j:=j) (q:=q) hK (by omega) hq
   rw[e1,e2,if_pos]
   ·exact ⟨rfl,rfl⟩
   ·rw[← hW]
    refine ahq (by omega) ?_;have e:K - j=(K - (j+1))+1:=by omega
    rw[e,aam] at hq;omega
 ·obtain ⟨e1,e2,_⟩:=pa_no h
  have h2:inB x n=false:=by rw[Bool.eq_false_iff];exact h
  have HN:=Lib.hid (adj x n w hn2);rw[h2] at HN;rw[e1,e2];clear h h2 e1 e2 hn2;go_enter Tryz.func80,Tryz.ntmps80;go_wp2_with fail;refine HN.out.mono ?_;rintro _ _ ⟨rfl,rfl⟩;go_wp2_with fail;go_ret2;exact ⟨rfl,rfl⟩
theorem aei (n:Int)(w:World):Calls Tryz.prog 127 #[.int .i64 n] w fun e w'=>e=.returned (.tuple #[.int .i64 (widV n),.int .i64 (widE n)])∧w=w':=by
 have HT:=Lib.hid (ahS n w);by_cases ht:isTB n=true
 ·have h1:=acB ht
  have h2:IntKind.i64.wrap (2*n)=2*n:=IntWalk.i64_in _ (by omega);have h3:IntKind.i64.wrap (2*n - 1)=2*n - 1:=IntWalk.i64_in _ (by omega);rw[show widV n=2*n - 1 from if_pos ht,show widE n=0 from if_pos ht];rw[ht] at HT;clear ht h1;go_enter Tryz.func127,Tryz.ntmps127;go_wp2_with fail;refine HT.out.mono ?_;rintro _ _ ⟨rfl,rfl⟩;go_wp2_with fail;go_ret2;exact ⟨rfl,rfl⟩
 ·have ht2:isTB n=false:=by rw[Bool.eq_false_iff];exact ht
  rw[show widV n=0 from if_neg ht,show widE n=1 from if_neg ht];rw[ht2] at HT;clear ht ht2;go_enter Tryz.func127,Tryz.ntmps127;go_wp2_with fail;refine HT.out.mono ?_;rintro _ _ ⟨rfl,rfl⟩;go_wp2_with fail;go_ret2;exact ⟨rfl,rfl⟩
theorem aii {k:Nat}(h:k≤10):((2 ^ k:Nat):Int)≤1024∧1≤((2 ^ k:Nat):Int):=by have:=acd h;have:=aaC k;omega
theorem aoq (k:Nat)(h:k≤10):IntKind.i64.wrap (1*2 ^ k)=((2 ^ k:Nat):Int):=by
 have h1:=aii h;have e:(1:Int)*2 ^ k=((2 ^ k:Nat):Int):=by push_cast;omega
 rw[e];exact IntWalk.i64_in _ (by omega)
theorem aor (k:Nat)(h:k≤10):IntKind.i64.wrap (2 ^ k)=((2 ^ k:Nat):Int):=by
 have:=aoq k h;rwa [Int.one_mul] at this
theorem aq4 (k:Nat)(h:k≤10):IntKind.i64.wrap (-1*2 ^ k) = -((2 ^ k:Nat):Int):=by
 have h1:=aii h;have e:(-1:Int)*2 ^ k = -((2 ^ k:Nat):Int):=by push_cast;omega
 rw[e];exact IntWalk.i64_in _ (by omega)
theorem aj2 (j q:Nat)(s:Int)(w:World)(hj:j+1≤10)(hq:q<2 ^ (10 - (j+1)))(hs:s=1∨s = -1)(hT:Tab w):
  Calls Tryz.prog 165 #[.int .i64 ((nd (j+1) q:Nat):Int),.int .i64 s] w fun e w'=>e=.returned (.tuple #[.int .i64 (((nd (j+1) q:Nat):Int)+s*((2 ^ j:Nat):Int)),.int .i64 0])∧w=w':=by
 have HL:=Lib.hid (abj ((nd (j+1) q:Nat):Int) w hT);rw[abF hj hq] at HL;have hx:=(aaJ ((nd (j+1) q:Nat):Int)).2 ⟨j+1,q,rfl,hj,hq⟩;obtain ⟨b1,b2⟩:=aii (k:=j) (by omega);have e1:IntKind.i64.wrap (((j+1:Nat):Int) - 1)=(j:Int):=by rw[IntWalk.i64_in _ (by omega)];omega
 have e0:¬((j+1:Nat):Int)=0:=by omega
 have e0':(((j+1:Nat):Int)==0)=false:=beq_eq_false_iff_ne.2 e0;have e3:IntKind.i64.wrap (s*2 ^ j)=s*((2 ^ j:Nat):Int):=by
  rcases hs with rfl | rfl
  ·rw[aoq j (by omega)];omega
  ·rw[aq4 j (by omega)];omega
 have e4:IntKind.i64.wrap (((nd (j+1) q:Nat):Int)+s*((2 ^ j:Nat):Int))=((nd (j+1) q:Nat):Int)+s*((2 ^ j:Nat):Int):=IntWalk.i64_in _ (by rcases hs with rfl | rfl <;> omega);have e5:((j:Int)).toNat=j:=Int.toNat_natCast j;have e6:(j:Int)≤64:=by omega
 generalize s*((2 ^ j:Nat):Int)=M at *;generalize ((j+1:Nat):Int)=J1 at *;generalize ((nd (j+1) q:Nat):Int)=X at *;clear hx hq hj hT b1 b2 hs;go_enter Tryz.func165,Tryz.ntmps165;go_wp2_with fail;refine HL.out.mono ?_;rintro _ _ ⟨rfl,rfl⟩;go_wp2_with fail;go_ret2;exact ⟨rfl,rfl⟩
theorem alN (x s:Int)(w:World)(h:levV x=0)(hT:Tab w):
  Calls Tryz.prog 165 #[.int .i64 x,.int .i64 s] w fun e w'=>e=.returned (.tuple #[.int .i64 0,.int .i64 1])∧w=w':=by
 have HL:=Lib.hid (abj x w hT);rw[h] at HL;clear h hT;go_enter Tryz.func165,Tryz.ntmps165;go_wp2_with fail;refine HL.out.mono ?_;rintro _ _ ⟨rfl,rfl⟩;go_wp2_with fail;go_ret2;exact ⟨rfl,rfl⟩
theorem ag3 (x:Int):levV x=0∨∃ j q,x=((nd (j+1) q:Nat):Int)∧j+1≤10∧q<2 ^ (10 - (j+1)):=by
 by_cases h:okN x
 ·obtain ⟨j,q,rfl,hj,hq⟩:=(aaJ x).1 h
  cases j with
  | zero=>exact .inl (abF hj hq)
  | succ j=>exact .inr ⟨j,q,rfl,hj,hq⟩
 ·exact .inl (agr h)
theorem adz (x:Int)(w:World)(hT:Tab w):Calls Tryz.prog 128 #[.int .i64 x] w fun e w'=>e=.returned (.tuple #[.int .i64 (lefV x),.int .i64 (chE x)])∧w=w':=by
 have H:Hid (Calls Tryz.prog 165 #[.int .i64 x,.int .i64 (-1)] w fun e w'=>e=.returned (.tuple #[.int .i64 (lefV x),.int .i64 (chE x)])∧w=w'):=by
  rcases ag3 x with h | ⟨j,q,rfl,hj,hq⟩
  ·have h1:lefV x=0:=if_pos h
   have h2:chE x=1:=if_pos h;rw[h1,h2];exact alN x (-1) w h hT
  ·obtain ⟨h1,h2,_⟩:=aeg hj hq
   obtain ⟨h3,h4⟩:=afh j q;have:=aj2 j q (-1) w hj hq (.inr rfl) hT;rw[h1,h2];rwa [show ((nd (j+1) q:Nat):Int)+-1*((2 ^ j:Nat):Int)=((nd j (2*q):Nat):Int) by omega] at this
 clear hT;go_enter Tryz.func128,Tryz.ntmps128;go_wp2_with fail;refine H.out.mono ?_;rintro _ _ ⟨rfl,rfl⟩;go_wp2_with fail;go_ret2;exact ⟨rfl,rfl⟩
theorem aej (x:Int)(w:World)(hT:Tab w):Calls Tryz.prog 129 #[.int .i64 x] w fun e w'=>e=.returned (.tuple #[.int .i64 (rigV x),.int .i64 (chE x)])∧w=w':=by
 have H:Hid (Calls Tryz.prog 165 #[.int .i64 x,.int .i64 1] w fun e w'=>e=.returned (.tuple #[.int .i64 (rigV x),.int .i64 (chE x)])∧w=w'):=by
  rcases ag3 x with h | ⟨j,q,rfl,hj,hq⟩
  ·have h1:rigV x=0:=if_pos h
   have h2:chE x=1:=if_pos h;rw[h1,h2];exact alN x 1 w h hT
  ·obtain ⟨h1,_,h2⟩:=aeg hj hq
   have h3:=aec j q;have:=aj2 j q 1 w hj hq (.inl rfl) hT;rw[h1,h2];rwa [show ((nd (j+1) q:Nat):Int)+1*((2 ^ j:Nat):Int)=((nd j (2*q+1):Nat):Int) by omega] at this
 clear hT;go_enter Tryz.func129,Tryz.ntmps129;go_wp2_with fail;refine H.out.mono ?_;rintro _ _ ⟨rfl,rfl⟩;go_wp2_with fail;go_ret2;exact ⟨rfl,rfl⟩
theorem amG (j q:Nat)(w:World)(hj:j<10)(hq:q<2 ^ (10 - j))(hT:Tab w):
  Calls Tryz.prog 164 #[.int .i64 ((nd j q:Nat):Int)] w fun e w'=>e=.returned (.int .i64 ((nd (j+1) (q / 2):Nat):Int))∧w=w':=by
 have HL:=Lib.hid (abj ((nd j q:Nat):Int) w hT);rw[abF (by omega) hq] at HL;have hx:=(aaJ ((nd j q:Nat):Int)).2 ⟨j,q,rfl,by omega,hq⟩;obtain ⟨b1,b2⟩:=aii (k:=j) (by omega);have e1:=aor j (by omega);have e2:IntKind.i64.wrap (2*((2 ^ j:Nat):Int))=((2 ^ (j+1):Nat):Int):=by rw[aam,IntWalk.i64_in _ (by omega)];omega
 have e3:=ada (nd j q) (2 ^ (j+1)) (by omega) (by rw[aam];omega);rw[aoQ] at e3;have e5:((j:Int)).toNat=j:=Int.toNat_natCast j;have e6:(j:Int)≤64:=by omega
 by_cases h:q % 2=0
 ·have h1:=ani j q h
  have e4:IntKind.i64.wrap (((nd j q:Nat):Int)+((2 ^ j:Nat):Int))=((nd (j+1) (q / 2):Nat):Int):=by rw[IntWalk.i64_in _ (by omega)];omega
  rw[if_pos h] at e3;generalize ((nd (j+1) (q / 2):Nat):Int)=Y at *;generalize ((2 ^ (j+1):Nat):Int)=B at *;generalize ((nd j q:Nat):Int)=X at *;generalize ((2 ^ j:Nat):Int)=A at *;clear hx hq hj hT b1 b2 h h1;go_enter Tryz.func164,Tryz.ntmps164;go_wp2_with fail;refine HL.out.mono ?_;rintro _ _ ⟨rfl,rfl⟩;go_wp2_with fail;go_ret;exact ⟨rfl,rfl⟩
 ·obtain ⟨h1,h2⟩:=als j q h
  have e4:IntKind.i64.wrap (((nd j q:Nat):Int) - ((2 ^ j:Nat):Int))=((nd (j+1) (q / 2):Nat):Int):=by rw[IntWalk.i64_in _ (by omega)];omega
  rw[if_neg h] at e3;have e7:(((2 ^ (j+1):Nat):Int)==0)=false:=beq_eq_false_iff_ne.2 (by have:=aaC (j+1);omega);generalize ((nd (j+1) (q / 2):Nat):Int)=Y at *;generalize ((2 ^ (j+1):Nat):Int)=B at *;generalize ((nd j q:Nat):Int)=X at *;generalize ((2 ^ j:Nat):Int)=A at *;clear hx hq hj hT b1 b2 h h1 h2;go_enter Tryz.func164,Tryz.ntmps164;go_wp2_with fail;refine HL.out.mono ?_;rintro _ _ ⟨rfl,rfl⟩;go_wp2_with fail;go_ret;exact ⟨rfl,rfl⟩
theorem apL (n:Int)(w:World)(hn:-9223372036854775807≤n∧n≤9223372036854775807):Calls Tryz.prog 163 #[.int .i64 n] w fun e w'=>e=.returned (.int .i64 (n - 1))∧w=w':=by
 have e1:IntKind.i64.wrap (n - 1)=n - 1:=IntWalk.i64_in _ (by omega);go_enter Tryz.func163,Tryz.ntmps163;go_wp2_with fail;go_ret;exact ⟨rfl,rfl⟩
theorem arP {K j q:Nat}(hK:K≤10)(hq:q<2 ^ (K - j)):q<2 ^ (10 - j):=Nat.lt_of_lt_of_le hq (Nat.pow_le_pow_right (by omega) (by omega))
theorem ak4 (j q:Nat)(w:World)(hj:j<10)(hq:q<2 ^ (10 - j)):
  Calls Tryz.prog 126 #[.int .i64 ((nd j q:Nat):Int),.int .i64 ((nd (j+1) (q / 2):Nat):Int)] w fun e w'=>e=.returned (.int .i64 ((nd j (sq q):Nat):Int))∧w=w':=by
 have h1:=aqo j q;have hx:=(aaJ ((nd j q:Nat):Int)).2 ⟨j,q,rfl,by omega,hq⟩;have hy:=(aaJ ((nd (j+1) (q / 2):Nat):Int)).2 ⟨j+1,q / 2,rfl,by omega,by
  have:2 ^ (10 - j)=2*2 ^ (10 - (j+1)):=by rw[show 10 - j=(10 - (j+1))+1 by omega,aam]
  omega⟩
 have e1:IntKind.i64.wrap (2*((nd (j+1) (q / 2):Nat):Int))=2*((nd (j+1) (q / 2):Nat):Int):=IntWalk.i64_in _ (by omega);have e2:IntKind.i64.wrap (2*((nd (j+1) (q / 2):Nat):Int) - ((nd j q:Nat):Int))=((nd j (sq q):Nat):Int):=by rw[IntWalk.i64_in _ (by omega)];omega
 generalize ((nd (j+1) (q / 2):Nat):Int)=Y at *;generalize ((nd j q:Nat):Int)=X at *;generalize ((nd j (sq q):Nat):Int)=Z at *;clear h1 hx hy hq hj;go_enter Tryz.func126,Tryz.ntmps126;go_wp2_with fail;go_ret;exact ⟨rfl,rfl⟩
theorem ag4 (x:Int)(w:World)(hT:Tab w):Calls Tryz.prog 119 #[.int .i64 x] w fun e w'=>e=.returned (.tuple #[.int .i64 (loV x),.int .i64 (hiV x)])∧w=w':=by
 have HN:=Lib.hid (aed x 1024 w);rw[alt] at HN;by_cases h:okN x
 ·obtain ⟨j,q,rfl,hj,hq⟩:=(aaJ x).1 h
  rw[decide_eq_true h] at HN;obtain ⟨c1,c2⟩:=anh hj hq;rw[c1,c2];have HL:=Lib.hid (abj ((nd j q:Nat):Int) w hT);rw[abF hj hq] at HL;have hx:0≤((nd j q:Nat):Int)∧((nd j q:Nat):Int)≤2046:=h;obtain ⟨b1,b2⟩:=aii hj;obtain ⟨d1,d2⟩:=anc j q;have d3:2 ^ j - 1≤nd j q:=by unfold nd;omega
  have e1:=aor j hj;have e2:IntKind.i64.wrap (((2 ^ j:Nat):Int) - 1)=((2 ^ j:Nat):Int) - 1:=IntWalk.i64_in _ (by omega);have e3:IntKind.i64.wrap (((nd j q:Nat):Int) - (((2 ^ j:Nat):Int) - 1))=((nd j q - (2 ^ j - 1):Nat):Int):=by rw[IntWalk.i64_in _ (by omega)];omega
  have e4:IntKind.i64.wrap (((nd j q:Nat):Int)+(((2 ^ j:Nat):Int) - 1))=((nd j q+(2 ^ j - 1):Nat):Int):=by rw[IntWalk.i64_in _ (by omega)];omega
  have e7:((nd j q - (2 ^ j - 1):Nat):Int).tdiv 2=((2 ^ j*q:Nat):Int):=by rw[Int.tdiv_eq_ediv_of_nonneg (by omega)];omega
  have e8:((nd j q+(2 ^ j - 1):Nat):Int).tdiv 2=((2 ^ j*q+2 ^ j - 1:Nat):Int):=by rw[Int.tdiv_eq_ediv_of_nonneg (by omega)];omega
  have e9:IntKind.i64.wrap ((2 ^ j*q:Nat):Int)=((2 ^ j*q:Nat):Int):=IntWalk.i64_in _ (by omega);have e10:IntKind.i64.wrap ((2 ^ j*q+2 ^ j - 1:Nat):Int)=((2 ^ j*q+2 ^ j - 1:Nat):Int):=IntWalk.i64_in _ (by omega);have e5:((j:Int)).toNat=j:=Int.toNat_natCast j;have e6:(j:Int)≤64:=by omega
  generalize ((nd j q - (2 ^ j - 1):Nat):Int)=U at *;generalize ((nd j q+(2 ^ j - 1):Nat):Int)=V at *;generalize ((2 ^ j*q:Nat):Int)=LO at *;generalize ((2 ^ j*q+2 ^ j - 1:Nat):Int)=HI at *;generalize ((nd j q:Nat):Int)=X at *;generalize ((2 ^ j:Nat):Int)=A at *;clear h hx b1 b2 d1 d2 d3 c1 c2 hq hT;go_enter Tryz.func119,Tryz.ntmps119;go_wp2_with fail;refine HN.out.mono ?_;rintro _ _ ⟨rfl,rfl⟩;go_wp2_with fail;refine HL.out.mono ?_;rintro _ _ ⟨rfl,rfl⟩;go_wp2_with fail;go_ret2;exact ⟨rfl,rfl⟩
 ·rw[decide_eq_false h] at HN
  obtain ⟨c1,c2⟩:=arn h;rw[c1,c2];clear h c1 c2 hT;go_enter Tryz.func119,Tryz.ntmps119;go_wp2_with fail;refine HN.out.mono ?_;rintro _ _ ⟨rfl,rfl⟩;go_wp2_with fail;go_ret2;exact ⟨rfl,rfl⟩
end Go.Proofs.YthmhklmkgkfcpaaGreatDoor
