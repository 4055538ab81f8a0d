import Derived.Test.YthmhklmkgkfcpaaGreatDoorT4
import Derived.Test.YthmhklmkgkfcpaaGreatDoorT10
import Derived.Test.YthmhklmkgkfcpaaGreatDoorT11
import Derived.Test.YthmhklmkgkfcpaaGreatDoorT13
import Derived.Test.YthmhklmkgkfcpaaGreatDoorT14
import Derived.Test.YthmhklmkgkfcpaaGreatDoorT15
import Derived.Maps.AppendAt
import Derived.Deep.MidRow
import Derived.Deep.RegionHeld3
import Derived.Deep.Fields
set_option linter.unusedVariables false
set_option linter.unusedSimpArgs false
set_option maxHeartbeats 8000000
set_option maxRecDepth 100000
namespace Go.Proofs.YthmhklmkgkfcpaaGreatDoor
open Go.RowKit
def nodC (n:Nod)(p u h:Value):List Value:=[.int .i64 n.kind,.int .i64 n.name,p,u,h]
structure NIn (w:World)(n:Nod)(p u h:Value):Prop where
 mk ::
 pub:Rd w p n.pub
 un:RI w u n.un
 hash:Rd w h n.hash
theorem NIn.kp {w w':World}{n:Nod}{p u h:Value}(i:NIn w n p u h)(k:Kp w w'):NIn w' n p u h:=⟨i.pub.kp k,i.un.kp k,i.hash.kp k⟩
def NV (w:World)(v:Value)(n:Nod):Prop:=∃ p u h,v=.agg (nodC n p u h).toArray∧NIn w n p u h
theorem aaM (w:World):Rd w (.slice none 0 0) []:=⟨none,0,rfl,Nat.le_refl _,Nat.zero_le _,fun _=>rfl,fun x hx=>by cases hx⟩
theorem NV.blank (w:World):NV w (.agg #[.int .i64 0,.int .i64 0,.slice none 0 0,.slice none 0 0,.slice none 0 0]) aao:=
 ⟨_,_,_,rfl,⟨aaM w,RI.nil w,aaM w⟩⟩
def NAt (w:World)(b o:Nat)(n:Nod)(p u h:Value):Prop:=w.rangeAt b o (nodC n p u h)∧NIn w n p u h
theorem NAt.kp {w w':World}{b o:Nat}{n:Nod}{p u h:Value}(i:NAt w b o n p u h)(k:Kp w w'):NAt w' b o n p u h:=
 ⟨fun j v hj=>k.cell (i.1 j v hj),i.2.kp k⟩
theorem NAt.kind {w:World}{b o:Nat}{n:Nod}{p u h:Value}(i:NAt w b o n p u h):w.cell? ⟨b,o,none⟩=some (.int .i64 n.kind):=i.1 0 _ rfl
theorem NAt.name {w:World}{b o:Nat}{n:Nod}{p u h:Value}(i:NAt w b o n p u h):w.cell? ⟨b,o+1,none⟩=some (.int .i64 n.name):=i.1 1 _ rfl
theorem NAt.pubC {w:World}{b o:Nat}{n:Nod}{p u h:Value}(i:NAt w b o n p u h):w.cell? ⟨b,o+2,none⟩=some p:=i.1 2 _ rfl
theorem NAt.unC {w:World}{b o:Nat}{n:Nod}{p u h:Value}(i:NAt w b o n p u h):w.cell? ⟨b,o+3,none⟩=some u:=i.1 3 _ rfl
theorem NAt.hashC {w:World}{b o:Nat}{n:Nod}{p u h:Value}(i:NAt w b o n p u h):w.cell? ⟨b,o+4,none⟩=some h:=i.1 4 _ rfl
def NL (w:World)(v:Value)(t:List Nod):Prop:=
 ∃ a c,v=.slice a t.length c∧t.length≤c∧c≤maxLen∧(a=none→c=0) ∧
  (0<t.length→∃ b off,a=some ⟨b,off,none⟩∧b<w.heap.size∧∀ i,i<t.length→∃ p u h,NAt w b (off+i*5) (ats t i) p u h)
theorem NL.kp {w w':World}{v:Value}{t:List Nod}(h:NL w v t)(k:Kp w w'):NL w' v t:=by
 obtain ⟨a,c,e,h1,h2,h3,h4⟩:=h;refine ⟨a,c,e,h1,h2,h3,fun h0=>?_⟩;obtain ⟨b,off,ha,hb,hi⟩:=h4 h0;refine ⟨b,off,ha,Nat.lt_of_lt_of_le hb k.size,fun i hi2=>?_⟩;obtain ⟨p,u,h,hn⟩:=hi i hi2;exact ⟨p,u,h,hn.kp k⟩
theorem NL.shape {w:World}{v:Value}{t:List Nod}(h:NL w v t):∃ a c,v=.slice a t.length c∧t.length≤c∧c≤maxLen:=by
 obtain ⟨a,c,e,h1,h2,_⟩:=h;exact ⟨a,c,e,h1,h2⟩
theorem NL.sl {w:World}{v:Value}{t:List Nod}(h:NL w v t):∃ a n c,v=.slice a n c:=by
 obtain ⟨a,c,e,_⟩:=h;exact ⟨_,_,_,e⟩
theorem NL.nil (w:World):NL w (.slice none 0 0) []:=⟨none,0,rfl,Nat.le_refl _,Nat.zero_le _,fun _=>rfl,fun h=>absurd h (by simp)⟩
theorem NL.at {w:World}{a:Option Addr}{n c:Nat}{t:List Nod}(h:NL w (.slice a n c) t)(k:Nat)(hk:k<n):
  ∃ b off,a=some ⟨b,off,none⟩∧b<w.heap.size∧∀ i,i<n→∃ p u h,NAt w b (off+i*5) (ats t i) p u h:=by
 obtain ⟨a',c',e,h1,h2,h3,h4⟩:=h;simp only[Value.slice.injEq] at e;obtain ⟨rfl,rfl,rfl⟩:=e;exact h4 (by omega)
theorem aaI (a:Addr)(n:Nat):(a.add n).block=a.block:=by unfold Addr.add;split <;> rfl
def aaq (v u:Value):Prop:=∀ g,v.ownBlock=some g→∀ x n c,u=.slice (some x) n c→0<n→x.block≠g
theorem aaq.nil (v:Value)(a:Option Addr)(c:Nat):aaq v (.slice a 0 c):=fun g hg x n c' e h=>by
 simp only[Value.slice.injEq] at e;omega
theorem Rd.apart {w:World}{v u:Value}{l:List UInt8}(h:Rd w u l)(hv:∀ g,v.ownBlock=some g→w.heap.size≤g):aaq v u:=fun g hg x n c e h0 he=>by
 obtain ⟨a',c',e',h1,h2,h3,h4⟩:=h;rw[e] at e';simp only[Value.slice.injEq] at e';obtain ⟨rfl,rfl,rfl⟩:=e';have hb:=World.block_lt_of_cell? w _ (h4 x rfl 0 h0);rw[aaI] at hb;have:=hv g hg;omega
theorem RI.apart {w:World}{v u:Value}{l:List Int}(h:RI w u l)(hv:∀ g,v.ownBlock=some g→w.heap.size≤g):aaq v u:=fun g hg x n c e h0 he=>by
 obtain ⟨a',c',e',h1,h2,h3,h4⟩:=h;rw[e] at e';simp only[Value.slice.injEq] at e';obtain ⟨rfl,rfl,rfl⟩:=e';have hb:=World.block_lt_of_cell? w _ (h4 x rfl 0 h0);rw[aaI] at hb;have:=hv g hg;omega
theorem OI.apart {e:TypeId}{w:World}{B:Nat}{v u:Value}{l:List Int}(h:OI e w B u l)(hv:∀ g,v.ownBlock=some g→g<B):aaq v u:=fun g hg x n c e' h0 he=>by
 have h1:=hv g hg;have h2:=(h.lt x.block (by rw[e'];rfl)).1;omega
theorem Rd.grown9 {w w':World}{u v:Value}{l:List UInt8}(h:Rd w u l)(hg:w.grownBy w' v.ownBlock)(ha:aaq v u):Rd w' u l:=by
 obtain ⟨a,c,e,h1,h2,h3,h4⟩:=h;subst e;refine ⟨a,c,rfl,h1,h2,h3,fun x hx i hi=>?_⟩;have hc:=h4 x hx i hi;subst hx;exact hg.cell hc fun e=>ha x.block (by rw[← e,aaI]) x _ c rfl (by first | omega | (rw[List.length_map] at hi ⊢;omega)) rfl
theorem RI.grown9 {w w':World}{u v:Value}{l:List Int}(h:RI w u l)(hg:w.grownBy w' v.ownBlock)(ha:aaq v u):RI w' u l:=by
 obtain ⟨a,c,e,h1,h2,h3,h4⟩:=h;subst e;refine ⟨a,c,rfl,h1,h2,h3,fun x hx i hi=>?_⟩;have hc:=h4 x hx i hi;subst hx;exact hg.cell hc fun e=>ha x.block (by rw[← e,aaI]) x _ c rfl (by first | omega | (rw[List.length_map] at hi ⊢;omega)) rfl
theorem NIn.grown {w w':World}{v:Value}{n:Nod}{p u h:Value}(i:NIn w n p u h)(hg:w.grownBy w' v.ownBlock)(h1:aaq v p)(h2:aaq v u)(h3:aaq v h):NIn w' n p u h:=
 ⟨i.pub.grown9 hg h1,i.un.grown9 hg h2,i.hash.grown9 hg h3⟩
def NO (e:TypeId)(w:World)(B:Nat)(v:Value)(t:List Nod):Prop:=
 ∃ us:List Value,w.ownsRow B e 5 v t.length us∧(∀ z∈us,z.oneCell'=true) ∧
  ∀ i,i<t.length→∃ p u h,(∀ f,f<5→us[i*5+f]?=(nodC (ats t i) p u h)[f]?)∧NIn w (ats t i) p u h∧aaq v p∧aaq v u∧aaq v h
theorem NO.kp {e:TypeId}{w w':World}{B:Nat}{v:Value}{t:List Nod}(h:NO e w B v t)(k:Kp w w'):NO e w' B v t:=by
 obtain ⟨us,h1,h2,h3⟩:=h;refine ⟨us,adg h1 k,h2,fun i hi=>?_⟩;obtain ⟨p,u,h,a1,a2,a3⟩:=h3 i hi;exact ⟨p,u,h,a1,a2.kp k,a3⟩
theorem NO.lt {e:TypeId}{w:World}{B:Nat}{v:Value}{t:List Nod}(h:NO e w B v t):∀ k,v.ownBlock=some k→B≤k∧k<w.heap.size:=by
 obtain ⟨us,h1,_⟩:=h;exact fun k hk=>World.ownsRow.lt h1 k hk
theorem NO.form {e:TypeId}{w:World}{B:Nat}{v:Value}{t:List Nod}(h:NO e w B v t)(h0:0<t.length):
  ∃ g c,v=.slice (some ⟨g,0,none⟩) t.length c∧B≤g∧g<w.heap.size∧t.length≤c∧c≤maxLen ∧
   ∀ i,i<t.length→∃ p u h,NAt w g (i*5) (ats t i) p u h∧aaq v p∧aaq v u∧aaq v h:=by
 obtain ⟨us,h1,h2,h3⟩:=h;have hlt:=fun k hk=>World.ownsRow.lt h1 k hk
 rcases id h1.2 with ⟨_,hn⟩ | ⟨g,cap,cur,rfl,hb,hg,hn,hm,hs,ht⟩
 ·omega
 ·refine ⟨g,cap,rfl,hb,(hlt g rfl).2,hn,hm,fun i hi=>?_⟩
  obtain ⟨p,u,h,a1,a2,a3⟩:=h3 i hi;refine ⟨p,u,h,⟨fun j x hj=>?_,a2⟩,a3⟩;have hjl:j<5:=(List.getElem?_eq_some_iff.1 hj).1;rw[h1.cellAt (i*5+j) (by omega),a1 j hjl];exact hj
theorem NO.nl {e:TypeId}{w:World}{B:Nat}{v:Value}{t:List Nod}(h:NO e w B v t):NL w v t:=by
 by_cases h0:0<t.length
 ·obtain ⟨g,c,rfl,hb,hg,h1,h2,h3⟩:=h.form h0
  refine ⟨_,c,rfl,h1,h2,fun h=>(by cases h),fun _=>⟨g,0,rfl,hg,fun i hi=>?_⟩⟩;rw[Nat.zero_add];obtain ⟨p,u,h,hn,_⟩:=h3 i hi;exact ⟨p,u,h,hn⟩
 ·have ht:t=[]:=List.eq_nil_of_length_eq_zero (by omega)
  subst ht;obtain ⟨us,h1,_⟩:=h;rcases h1.2 with ⟨rfl,_⟩ | ⟨g,cap,cur,rfl,hb,hg,hn,hm,hs,ht⟩
  ·exact NL.nil w
  ·exact ⟨_,cap,rfl,hn,hm,fun h=>(by cases h),fun h=>absurd h (by simp)⟩
theorem NO.empty (e:TypeId)(w:World):NO e (w.alloc (.cells #[] e)) w.heap.size (.slice (some ⟨w.heap.size,0,none⟩) 0 0) []:=
 ⟨[],World.ownsRow_lit w #[] 0 (Nat.le_refl _) (by unfold maxLen;omega) rfl,fun z hz=>by simp at hz,fun i hi=>by simp at hi⟩
theorem af7 {w:World}{n:Nod}{p u h:Value}(i:NIn w n p u h):∀ z∈nodC n p u h,z.oneCell'=true:=by
 obtain ⟨a1,n1,c1,rfl⟩:∃ a n c,p=.slice a n c:=by obtain ⟨a,c,e,_⟩:=i.pub.shape;exact ⟨_,_,_,e⟩
 obtain ⟨a2,n2,c2,rfl⟩:=i.un.sl;obtain ⟨a3,n3,c3,rfl⟩:∃ a n c,h=.slice a n c:=by obtain ⟨a,c,e,_⟩:=i.hash.shape;exact ⟨_,_,_,e⟩
 intro z hz;unfold nodC at hz;simp only[List.mem_cons,List.not_mem_nil,or_false] at hz;rcases hz with rfl | rfl | rfl | rfl | rfl <;> rfl
theorem NO.there {e:TypeId}{w:World}{B g c n:Nat}{t:List Nod}(h:NO e w B (.slice (some ⟨g,0,none⟩) n c) t)(i:Nat)(hi:i<t.length):w.there g (i*5) 5:=by
 obtain ⟨us,h1,h2,h3⟩:=h;have hn:t.length=n:=by
  rcases h1.2 with ⟨e,_⟩ | ⟨g',cap,cur,e,_⟩
  ·simp at e
  ·simp only[Value.slice.injEq] at e;exact e.2.1.symm
 subst hn;intro j hj;refine ⟨?_,h1.frozenAt _⟩;rw[h1.cellAt (i*5+j) (by omega),List.getElem?_eq_getElem (by rw[h1.1];omega)];rfl
theorem abA {e:TypeId}{B g n cap C:Nat}:∀ (vs:List Value) (o:Nat) (w:World) (xs:List Value),w.ownsRow B e C (.slice (some ⟨g,0,none⟩) n cap) n xs→o+vs.length≤xs.length →
  ∃ ys,(w.setCells g o vs).ownsRow B e C (.slice (some ⟨g,0,none⟩) n cap) n ys∧w.grownBy (w.setCells g o vs) (some g)∧ys.length=xs.length∧∀ k,ys[k]?=if o≤k∧k<o+vs.length then vs[k - o]? else xs[k]?
 | [],o,w,xs,h,_=>⟨xs,h,⟨rfl,rfl,rfl,Nat.le_refl _,fun _ _ _=>rfl⟩,rfl,fun k=>by rw[if_neg (by simp only[List.length_nil];omega)]⟩
 | v :: vs,o,w,xs,h,hl=>by
  obtain ⟨h1,g1⟩:=h.stored o v
  obtain ⟨ys,h2,g2,hl2,h3⟩:=abA vs (o+1) (w.setCell ⟨g,o,none⟩ v) (xs.set o v) h1 (by rw[List.length_set];simp at hl;omega)
  refine ⟨ys,h2,⟨g2.os.trans g1.os,g2.tape.trans g1.tape,g2.output.trans g1.output,Nat.le_trans g1.size g2.size,fun k hk hn=>(g2.block k (Nat.lt_of_lt_of_le hk g1.size) hn).trans (g1.block k hk hn)⟩,by rw[hl2,List.length_set],fun k=>?_⟩
  rw[h3 k]
  simp only[List.length_cons] at hl ⊢
  by_cases h4:o+1≤k∧k<o+1+vs.length
  ·rw[if_pos h4,if_pos ⟨by omega,by omega⟩,show k - o=(k - (o+1))+1 by omega,List.getElem?_cons_succ]
  ·rw[if_neg h4,List.getElem?_set]
   by_cases h5:o=k
   ·subst h5
    rw[if_pos rfl,if_pos (by omega),if_pos ⟨by omega,by omega⟩,Nat.sub_self]
    rfl
   ·rw[if_neg h5,if_neg (by omega)]
theorem NO.stored {e:TypeId}{w:World}{B g c n:Nat}{t:List Nod}(h:NO e w B (.slice (some ⟨g,0,none⟩) n c) t)(i:Nat)(hi:i<t.length)(m:Nod)(p u q:Value)(hin:NIn w m p u q)
  (h1:aaq (.slice (some ⟨g,0,none⟩) n c) p) (h2:aaq (.slice (some ⟨g,0,none⟩) n c) u) (h3:aaq (.slice (some ⟨g,0,none⟩) n c) q):
  NO e (w.setCells g (i*5) (nodC m p u q)) B (.slice (some ⟨g,0,none⟩) n c) (t.set i m)∧w.grownBy (w.setCells g (i*5) (nodC m p u q)) (some g):=by
 obtain ⟨us,k1,k2,k3⟩:=h;have hn:t.length=n:=by
  rcases k1.2 with ⟨e,_⟩ | ⟨g',cap,cur,e,_⟩
  ·simp at e
  ·simp only[Value.slice.injEq] at e;exact e.2.1.symm
 subst hn;have hul:=k1.1;obtain ⟨ys,y1,y2,y3,y4⟩:=abA (nodC m p u q) (i*5) w us k1 (by rw[hul];show i*5+5≤_;omega);refine ⟨⟨ys,by rw[List.length_set];exact y1,fun z hz=>?_,fun k hk=>?_⟩,y2⟩
 ·obtain ⟨k,hk⟩:=List.getElem?_of_mem hz
  rw[y4] at hk;split at hk
  ·exact af7 hin z (List.mem_of_getElem? hk)
  ·exact k2 z (List.mem_of_getElem? hk)
 ·rw[List.length_set] at hk
  have e5:(nodC m p u q).length=5:=rfl;rw[abu t i m k hi];by_cases e1:k=i
  ·subst e1
   rw[if_pos rfl];refine ⟨p,u,q,fun f hf=>?_,hin.grown (v:=.slice (some ⟨g,0,none⟩) t.length c) y2 h1 h2 h3,h1,h2,h3⟩;rw[y4,e5,if_pos ⟨by omega,by omega⟩,Nat.add_sub_cancel_left]
  ·rw[if_neg e1]
   obtain ⟨p',u',q',a1,a2,a3,a4,a5⟩:=k3 k hk;refine ⟨p',u',q',fun f hf=>?_,a2.grown (v:=.slice (some ⟨g,0,none⟩) t.length c) y2 a3 a4 a5,a3,a4,a5⟩;rw[y4,e5,if_neg (by omega)];exact a1 f hf
structure S5 (P:Program)(t e:TypeId):Prop where
 mk ::
 ht:P.underlying t=some (.slice e)
 hi:∃ i z,P.info? e=some i∧i.zero=some z∧i.size=5∧i.bytes≤128∧z.cells.size=5
theorem S5.mk' {P:Program}{t e:TypeId}{z:Value}{b:Nat}(ht:P.underlying t=some (.slice e))(h:(P.info? e).map (fun i=>(i.zero,i.size,i.bytes))=some (some z,5,b))(hb:b≤128)(hz:z.cells.size=5):S5 P t e:=by
 obtain ⟨i,hi,hz0,hz1,hz2⟩:=info_parts h;exact ⟨ht,i,z,hi,hz0,hz1,by omega,hz⟩
def NAp (w:World)(v u:Value)(t:List Nod):Prop:=
 ∃ a c,u=.slice a t.length c∧t.length≤c∧c≤maxLen∧(a=none→c=0) ∧
  (0<t.length→∃ b off,a=some ⟨b,off,none⟩∧∀ i,i<t.length→∃ p u h,NAt w b (off+i*5) (ats t i) p u h∧aaq v p∧aaq v u∧aaq v h)
theorem NL.apart {w w':World}{v u:Value}{t:List Nod}(h:NL w u t)(k:Kp w w')(hv:∀ g,v.ownBlock=some g→w.heap.size≤g):NAp w' v u t:=by
 obtain ⟨a,c,e,h1,h2,h3,h4⟩:=h;refine ⟨a,c,e,h1,h2,h3,fun h0=>?_⟩;obtain ⟨b,off,ha,_,hi⟩:=h4 h0;refine ⟨b,off,ha,fun i hi2=>?_⟩;obtain ⟨p,u,h,hn⟩:=hi i hi2;exact ⟨p,u,h,hn.kp k,hn.2.pub.apart hv,hn.2.un.apart hv,hn.2.hash.apart hv⟩
theorem NL.apart_blank {w:World}{v u:Value}{t:List Nod}(h:NL w u t)(hb:∀ i,ats t i=aao):NAp w v u t:=by
 obtain ⟨a,c,e,h1,h2,h3,h4⟩:=h;refine ⟨a,c,e,h1,h2,h3,fun h0=>?_⟩;obtain ⟨b,off,ha,_,hi⟩:=h4 h0;refine ⟨b,off,ha,fun i hi2=>?_⟩;obtain ⟨p,u,h,hn⟩:=hi i hi2;have e:=hb i;obtain ⟨a1,c1,e1,_⟩:=hn.2.pub.shape;obtain ⟨a2,c2,e2,_⟩:=hn.2.un.shape;obtain ⟨a3,c3,e3,_⟩:=hn.2.hash.shape;rw[e] at e1 e2 e3;refine ⟨p,u,h,hn,?_,?_,?_⟩
 ·rw[e1];exact aaq.nil v a1 c1
 ·rw[e2];exact aaq.nil v a2 c2
 ·rw[e3];exact aaq.nil v a3 c3
theorem NAp.flat {w:World}{v:Value}{b off:Nat}{t:List Nod}(h:∀ i,i<t.length→∃ p u h,NAt w b (off+i*5) (ats t i) p u h∧aaq v p∧aaq v u∧aaq v h):
  ∃ us:List Value,us.length=t.length*5∧(∀ z∈us,z.oneCell'=true)∧(∀ j z,us[j]?=some z→w.cell? ⟨b,off+j,none⟩=some z) ∧
   ∀ i,i<t.length→∃ p u h,(∀ f,f<5→us[i*5+f]?=(nodC (ats t i) p u h)[f]?)∧NIn w (ats t i) p u h∧aaq v p∧aaq v u∧aaq v h:=by
 have key:∀ n,n≤t.length→∃ us:List Value,us.length=n*5∧(∀ z∈us,z.oneCell'=true)∧(∀ j z,us[j]?=some z→w.cell? ⟨b,off+j,none⟩=some z) ∧
   ∀ i,i<n→∃ p u h,(∀ f,f<5→us[i*5+f]?=(nodC (ats t i) p u h)[f]?)∧NIn w (ats t i) p u h∧aaq v p∧aaq v u∧aaq v h:=by
  intro n;induction n with
  | zero=>exact fun _=>⟨[],rfl,fun z hz=>by simp at hz,fun j z hj=>by simp at hj,fun i hi=>by omega⟩
  | succ n ih=>
   intro hn;obtain ⟨us,l1,l2,l3,l4⟩:=ih (by omega);obtain ⟨p,u,q,⟨hc,hin⟩,hap⟩:=h n (by omega);have e5:(nodC (ats t n) p u q).length=5:=rfl;refine ⟨us++nodC (ats t n) p u q,by rw[List.length_append,l1,e5];omega,fun z hz=>?_,fun j z hj=>?_,fun i hi=>?_⟩
   ·rcases List.mem_append.1 hz with hz | hz
    ·exact l2 z hz
    ·exact af7 hin z hz
   ·by_cases hjl:j<us.length
    ·rw[List.getElem?_append_left hjl] at hj
     exact l3 j z hj
    ·rw[List.getElem?_append_right (by omega)] at hj
     have:=hc _ z hj;rw[l1] at this hjl;rwa [show off+n*5+(j - n*5)=off+j by omega] at this
   ·by_cases hin2:i<n
    ·obtain ⟨p',u',q',a1,a2⟩:=l4 i hin2
     refine ⟨p',u',q',fun f hf=>?_,a2⟩;rw[List.getElem?_append_left (by rw[l1];omega)];exact a1 f hf
    ·have:i=n:=by omega
     subst this;refine ⟨p,u,q,fun f hf=>?_,hin,hap⟩;rw[List.getElem?_append_right (by rw[l1];omega),l1,Nat.add_sub_cancel_left]
 exact key t.length (Nat.le_refl _)
theorem aaq.moved {w:World}{v v' u:Value}{l:List UInt8}(h:aaq v u)(hu:Rd w u l)(k:v'.ownBlock=v.ownBlock∨v'.ownBlock=some w.heap.size):aaq v' u:=by
 rcases k with k | k
 ·exact fun g hg=>h g (k▸hg)
 ·exact hu.apart fun g hg=>by rw[k] at hg;cases hg;exact Nat.le_refl _
theorem aaq.movedI {w:World}{v v' u:Value}{l:List Int}(h:aaq v u)(hu:RI w u l)(k:v'.ownBlock=v.ownBlock∨v'.ownBlock=some w.heap.size):aaq v' u:=by
 rcases k with k | k
 ·exact fun g hg=>h g (k▸hg)
 ·exact hu.apart fun g hg=>by rw[k] at hg;cases hg;exact Nat.le_refl _
theorem aqn (t m:List Nod)(i:Nat):ats (t++m) i=if i<t.length then ats t i else ats m (i - t.length):=by
 unfold ats;rw[List.getD_eq_getElem?_getD];split
 ·next h=>rw[List.getElem?_append_left h,List.getD_eq_getElem?_getD]
 ·next h=>rw[List.getElem?_append_right (by omega),List.getD_eq_getElem?_getD]
theorem abC {P:Program}{w:World}{t e:TypeId}(S:S5 P t e){ops:Array Oper}{rest:List Oper}{o:Oper}{a:Act}{Q:Exit→Act→World→Prop}(hgd:o.guard=none)(s x:Operand)
  (ho:o.op=.call { callee:=.builtin .append,args:=#[s,x],argTypes:=#[t,t] })
  (B:Nat) (v:Value) (ts:List Nod) (hs:a.eval s=v) (hown:NO e w B v ts) (u:Value) (ms:List Nod) (hx:a.eval x=u) (hu:NAp w v u ms) (hlen:ts.length+ms.length≤1000000) (hbase:B≤w.heap.size)
  (h:∀ v' w',NO e w' B v' (ts++ms)→w.grownBy w' v.ownBlock→(v'.ownBlock=v.ownBlock∨v'.ownBlock=some w.heap.size)→wpList P ops Q rest (a.put o.dst v') w'):wpList P ops Q (o :: rest) a w:=by
 obtain ⟨i,z,hi,hz,hsize,hby,hzc⟩:=S.hi;obtain ⟨us,h1,h2,h3⟩:=hown;obtain ⟨ad,c,rfl,hc,hm,hnil,hcell⟩:=hu;by_cases h0:0<ms.length
 ·obtain ⟨b,off,rfl,hn⟩:=hcell h0
  obtain ⟨news,n1,n2,n3,n4⟩:=NAp.flat hn;refine wpList_append_own_at w hgd s x t ho B e i z 5 i.bytes S.ht hi hz hsize rfl hzc (by decide) v ts.length us hs h1 ⟨b,off,none⟩ ms.length c news hx n1 (fun j y hj=>?_) n2 (by unfold maxLen;omega) ?_ hbase
   (fun v' w' k1 k2 _ k4=>h v' w' ⟨us++news,by rw[List.length_append];exact k1,fun y hy=>?_,fun j hj=>?_⟩ k2 k4)
  ·rw[Addr.add_mid]
   exact n3 j y hj
  ·have:=Nat.mul_le_mul hlen hby
   omega
  ·rcases List.mem_append.1 hy with hy | hy
   ·exact h2 y hy
   ·exact n2 y hy
  ·have hul:=h1.1
   rw[aqn];by_cases hjl:j<ts.length
   ·rw[if_pos hjl]
    obtain ⟨p,q,r,a1,a2,a3,a4,a5⟩:=h3 j hjl;refine ⟨p,q,r,fun f hf=>?_,a2.grown k2 a3 a4 a5,a3.moved a2.pub k4,a4.movedI a2.un k4,a5.moved a2.hash k4⟩;rw[List.getElem?_append_left (by rw[hul];omega)];exact a1 f hf
   ·rw[if_neg hjl]
    rw[List.length_append] at hj;obtain ⟨p,q,r,a1,a2,a3,a4,a5⟩:=n4 (j - ts.length) (by omega);refine ⟨p,q,r,fun f hf=>?_,a2.grown k2 a3 a4 a5,a3.moved a2.pub k4,a4.movedI a2.un k4,a5.moved a2.hash k4⟩;rw[List.getElem?_append_right (by rw[hul];omega),hul,← a1 f hf];congr 1
    omega
 ·have hm0:ms=[]:=List.eq_nil_of_length_eq_zero (by omega)
  subst hm0;cases ad with
  | none=>
   have hc0:=hnil rfl;subst hc0;refine wpList_append_own_none hgd s x t ho B e i 5 S.ht hi v ts.length us hs h1 hx ?_;exact h v w ⟨us,by simpa using h1,h2,by simpa using h3⟩ ⟨rfl,rfl,rfl,Nat.le_refl _,fun _ _ _=>rfl⟩ (.inl rfl)
  | some ad=>
   refine wpList_append_own_at w hgd s x t ho B e i z 5 i.bytes S.ht hi hz hsize rfl hzc (by decide) v ts.length us hs h1 ad 0 c [] hx rfl (fun j y hj=>by simp at hj) (fun y hy=>by simp at hy) (by unfold maxLen;omega) ?_ hbase
    (fun v' w' k1 k2 _ k4=>h v' w' ⟨us,by simpa using k1,h2,fun j hj=>?_⟩ k2 k4)
   ·have:=Nat.mul_le_mul hlen hby
    simp only[List.length_nil] at this;omega
   ·rw[List.append_nil] at hj ⊢
    obtain ⟨p,q,r,a1,a2,a3,a4,a5⟩:=h3 j hj;exact ⟨p,q,r,a1,a2.grown k2 a3 a4 a5,a3.moved a2.pub k4,a4.movedI a2.un k4,a5.moved a2.hash k4⟩
theorem abU {P:Program}{w:World}{ty e:TypeId}(hsz:(P.info? ty).map (·.size)=some 5){ops:Array Oper}{rest:List Oper}{o:Oper}{a:Act}{Q:Exit→Act→World→Prop}(hgd:o.guard=none)(hd:o.dst=none)(x y:Operand)
  (ho:o.op=.store ty x y) (B g c n:Nat) (t:List Nod) (hown:NO e w B (.slice (some ⟨g,0,none⟩) n c) t) (i:Nat) (hi:i<t.length) (m:Nod) (p u q:Value)
  (hx:a.eval x=.pointer (some ⟨g,i*5,none⟩)) (hy:a.eval y=.agg #[.int .i64 m.kind,.int .i64 m.name,p,u,q]) (hin:NIn w m p u q)
  (h1:aaq (.slice (some ⟨g,0,none⟩) n c) p) (h2:aaq (.slice (some ⟨g,0,none⟩) n c) u) (h3:aaq (.slice (some ⟨g,0,none⟩) n c) q)
  (h:∀ w',NO e w' B (.slice (some ⟨g,0,none⟩) n c) (t.set i m)→w.grownBy w' (some g)→wpList P ops Q rest a w'):wpList P ops Q (o :: rest) a w:=by
 obtain ⟨k1,k2⟩:=hown.stored i hi m p u q hin h1 h2 h3;refine wpList_store_mid hgd ty x y ho g (i*5) (nodC m p u q).toArray hx hy (hown.there i hi) hsz (all_oneCell_toArray (af7 hin)) ?_;rw[hd];exact h _ k1 k2
def Bx (w:World)(b:Nat)(T:TypeId)(cs:Array Value):Prop:=w.heap[b]?=some (.cells cs T (0,0))
theorem Bx.kp {w w':World}{b:Nat}{T:TypeId}{cs:Array Value}(h:Bx w b T cs)(k:Kp w w'):Bx w' b T cs:=
 (Below.block k b (Array.getElem?_eq_some_iff.1 h).1).trans h
theorem Bx.cell {w:World}{b:Nat}{T:TypeId}{cs:Array Value}(h:Bx w b T cs)(j:Nat):w.cell? ⟨b,j,none⟩=cs[j]?:=cell_of_row w b j cs T (0,0) h
theorem Bx.frozen {w:World}{b:Nat}{T:TypeId}{cs:Array Value}(h:Bx w b T cs)(j:Nat):w.frozen? ⟨b,j,none⟩=false:=frozen_of_row w b j cs T h
theorem Bx.new (w:World)(T:TypeId)(cs:Array Value):Bx (w.alloc (.cells cs T)) w.heap.size T cs:=heap_alloc_new w _
theorem Bx.set {w:World}{b:Nat}{T:TypeId}{cs:Array Value}(h:Bx w b T cs)(j:Nat)(v:Value):Bx (w.setCell ⟨b,j,none⟩ v) b T (cs.setIfInBounds j v):=heap_setCell_same w b j cs T v h
theorem Kp.setNew {w w':World}(h:Kp w w'){b j:Nat}(hb:w.heap.size≤b)(v:Value):Kp w (w'.setCell ⟨b,j,none⟩ v):=Below.setCell h hb v
theorem aab {w:World}{v:Value}{l:List UInt8}(h:Rd w v l):∃ a n c,v=.slice a n c:=by
 obtain ⟨a,c,e,_⟩:=h.shape;exact ⟨_,_,_,e⟩
theorem Bx.setCells {b:Nat}{T:TypeId}:∀ (vs:List Value) (o:Nat) (w:World) (cs:Array Value),Bx w b T cs→o+vs.length≤cs.size →
  ∃ cs':Array Value,Bx (w.setCells b o vs) b T cs'∧cs'.size=cs.size∧∀ k,cs'[k]?=if o≤k∧k<o+vs.length then vs[k - o]? else cs[k]?
 | [],o,w,cs,h,_=>⟨cs,h,rfl,fun k=>by rw[if_neg (by simp only[List.length_nil];omega)]⟩
 | v :: vs,o,w,cs,h,hl=>by
  simp only[List.length_cons] at hl
  obtain ⟨cs',h2,h3,h4⟩:=Bx.setCells vs (o+1) (w.setCell ⟨b,o,none⟩ v) (cs.setIfInBounds o v) (h.set o v) (by rw[Array.size_setIfInBounds];omega)
  refine ⟨cs',h2,by rw[h3,Array.size_setIfInBounds],fun k=>?_⟩
  rw[h4 k]
  simp only[List.length_cons]
  by_cases h5:o+1≤k∧k<o+1+vs.length
  ·rw[if_pos h5,if_pos ⟨by omega,by omega⟩,show k - o=(k - (o+1))+1 by omega,List.getElem?_cons_succ]
  ·rw[if_neg h5,Array.getElem?_setIfInBounds]
   by_cases h6:o=k
   ·subst h6
    rw[if_pos rfl,if_pos (by omega),if_pos ⟨by omega,by omega⟩,Nat.sub_self]
    rfl
   ·rw[if_neg h6,if_neg (by omega)]
theorem Bx.fill {w:World}{b:Nat}{T:TypeId}{cs:Array Value}(h:Bx w b T cs)(vs:Array Value)(hl:vs.size=cs.size):Bx (w.setCells b 0 vs.toList) b T vs:=by
 obtain ⟨cs',h1,h2,h3⟩:=Bx.setCells vs.toList 0 w cs h (by rw[Array.length_toList];omega);have e:cs'=vs:=by
  refine Array.ext_getElem? fun k=>?_
  rw[h3 k,Array.length_toList];split
  ·rw[Nat.sub_zero,Array.getElem?_toList]
  ·next hk=>rw[Array.getElem?_eq_none (by omega),Array.getElem?_eq_none (by omega)]
 exact e▸h1
theorem Bx.there {w:World}{b:Nat}{T:TypeId}{cs:Array Value}(h:Bx w b T cs):w.there b 0 cs.size:=fun j hj=>by
 rw[Nat.zero_add,h.cell j];exact ⟨by simp[hj],h.frozen j⟩
theorem Kp.setCells {w w':World}(h:Kp w w'){b:Nat}(hb:w.heap.size≤b):∀ (vs:List Value) (o:Nat),Kp w (w'.setCells b o vs):=by
 intro vs
 induction vs generalizing w' with
 | nil=>intro o;exact h
 | cons v vs ih=>intro o;exact ih (h.setNew hb v) (o+1)
def TL (l:List UInt8)(at':Int)(w:World)(e:Ending)(w':World):Prop:=
 e=.returned (.tuple #[.int .i64 (tlN l at'),.int .i64 (tlP l at'),.int .i64 (tlE l at')])∧Kp w w'
theorem ah8 (n:Int)(w:World):
  Calls Tryz.prog 150 #[.int .i64 n] w fun e w'=>∃ v,e=.returned (.tuple #[v,.int .i64 (lenE n)])∧Ow 5 w' w.heap.size v (lenB n)∧Kp w w':=by
 by_cases h1:n<0
 ·have d1:decide (n<0)=true:=by simp[h1]
  have e1:lenE n=1:=if_pos (.inl h1);have e2:lenB n=[]:=by simp[lenB,e1]
  rw[e1,e2];clear e1 e2;go_enter Tryz.func150,Tryz.ntmps150;go_wp2_with fail;go_ret2;exact ⟨_,rfl,Ow.nil _ _ _,Kp.refl _⟩
 ·have d1:decide (n<0)=false:=by simp[h1]
  by_cases h2:1073741823<n
  ·have d2:decide (1073741823<n)=true:=by simp[h2]
   have e1:lenE n=1:=if_pos (.inr h2);have e2:lenB n=[]:=by simp[lenB,e1]
   rw[e1,e2];clear e1 e2;go_enter Tryz.func150,Tryz.ntmps150;go_wp2_with fail;go_ret2;exact ⟨_,rfl,Ow.nil _ _ _,Kp.refl _⟩
  ·have d2:decide (1073741823<n)=false:=by simp[h2]
   obtain ⟨n,rfl⟩:=Int.eq_ofNat_of_zero_le (show 0≤n by omega);have e1:lenE n=0:=if_neg (by omega);have e2:lenB n=aau n:=by simp[lenB,e1]
   rw[e1,e2];clear e1 e2;by_cases h3:n<64
   ·have HE:=Lib.hid (show aau n=be 1 n by simp[aau,h3])
    go_enter Tryz.func150,Tryz.ntmps150;go_wp2_with fail;go_ret2;rw[HE.out];exact ⟨_,rfl,Ow.lit w _ _ _ _ _ (Nat.le_refl _) rfl (by omega) (by simp[Lib.byteCells,be];omega),(Kp.refl _).alloc _⟩
   ·by_cases h4:n<16384
    ·have HE:=Lib.hid (show aau n=be 2 (n+16384) by simp[aau,h3,h4])
     go_enter Tryz.func150,Tryz.ntmps150;go_wp2_with fail;go_ret2;rw[HE.out];refine ⟨_,rfl,Ow.lit w _ _ _ _ _ (Nat.le_refl _) rfl (by omega) ?_,(Kp.refl _).alloc _⟩;simp[Lib.byteCells,be];omega
    ·have HE:=Lib.hid (show aau n=be 4 (n+2147483648) by simp[aau,h3,h4])
     have HN:=Lib.hid (adV (n:=(2147483648+n:Int)) (w:=4) ⟨by omega,by omega,by omega,by rw[show (256:Int) ^ (4:Int).toNat=4294967296 from by decide];omega⟩);go_enter Tryz.func150,Tryz.ntmps150;go_wp2_with (go_at_call 62;refine (ah7 _ _ _ (by omega)).mono ?_;rintro e w' ⟨v,rfl,ho,hk⟩;obtain ⟨h1,h2⟩:=HN.out;rw[h1];rw[h2] at ho;clear h1 h2)
     go_ret2;rw[HE.out];refine ⟨_,rfl,?_,hk⟩;rw[show (2147483648+(n:Int)).toNat=n+2147483648 from by omega] at ho;exact ho
theorem abX (n:Nat):(aau n).length≤4:=by
 unfold aau;split
 ·rw[aak];omega
 ·split <;> (rw[aak];omega)
theorem akE (v:Value)(l:List UInt8)(w:World)(h:Rd w v l):
  Calls Tryz.prog 166 #[v] w fun e w'=>∃ u,e=.returned (.tuple #[u,.int .i64 (rowE l)])∧Ow 5 w' w.heap.size u (rowB l)∧Kp w w':=by
 have U:=ar0;obtain ⟨a,c,rfl,hc,hm⟩:=h.shape;by_cases h1:1073741823<l.length
 ·have e0:lenE l.length=1:=if_pos (.inr (by omega))
  have e1:rowE l=1:=e0;have e2:rowB l=[]:=by simp[rowB,e1]
  rw[e1,e2];have E0:=Lib.hid e0;clear e0 e1 e2;go_enter Tryz.func166,Tryz.ntmps166;go_wp2_with (go_at_call 167;refine (akD _ _).mono ?_;rintro e w1 ⟨u,rfl,ho,hk⟩;rw[E0.out])
  go_ret2;exact ⟨_,rfl,Ow.nil _ _ _,hk⟩
 ·have e0:lenE l.length=0:=if_neg (by omega)
  have e1:rowE l=0:=e0;have e2:rowB l=aau l.length++l:=by simp[rowB,e1]
  have e3:lenB l.length=aau l.length:=by simp[lenB,e0]
  rw[e1,e2];have E0:=Lib.hid e0;have E3:=Lib.hid e3;clear e0 e1 e2 e3;go_enter Tryz.func166,Tryz.ntmps166;go_wp2_with (first
   | (go_at_call 167;refine (akD _ _).mono ?_;rintro e w1 ⟨u,rfl,ho,hk⟩;rw[E0.out];rw[E3.out] at ho)
   | (at_builtin;refine aae U rfl _ _ rfl w.heap.size _ _ rfl ho _ l rfl (h.kp hk) ?c1 hk.size ?_;rotate_right;intro v' w2 ho2 hg _))
  case c1=>have:=abX l.length;omega
  go_ret2;exact ⟨_,rfl,ho2,Kp.grown hk hg ho.own_ge⟩
theorem ah9 (v:Value)(l:List UInt8)(w:World)(h:Rd w v l):
  Calls Tryz.prog 111 #[v] w fun e w'=>∃ u,e=.returned (.tuple #[u,.int .i64 (rowE l)])∧Ow 5 w' w.heap.size u (rowB l)∧Kp w w':=by
 have U:=ar0;obtain ⟨a,c,rfl,hc,hm⟩:=h.shape;by_cases h1:1073741823<l.length
 ·have e0:lenE l.length=1:=if_pos (.inr (by omega))
  have e1:rowE l=1:=e0;have e2:rowB l=[]:=by simp[rowB,e1]
  rw[e1,e2];have E0:=Lib.hid e0;clear e0 e1 e2;go_enter Tryz.func111,Tryz.ntmps111;go_wp2_with (go_at_call 150;refine (ah8 _ _).mono ?_;rintro e w1 ⟨u,rfl,ho,hk⟩;rw[E0.out])
  go_ret2;exact ⟨_,rfl,Ow.nil _ _ _,hk⟩
 ·have e0:lenE l.length=0:=if_neg (by omega)
  have e1:rowE l=0:=e0;have e2:rowB l=aau l.length++l:=by simp[rowB,e1]
  have e3:lenB l.length=aau l.length:=by simp[lenB,e0]
  rw[e1,e2];have E0:=Lib.hid e0;have E3:=Lib.hid e3;clear e0 e1 e2 e3;go_enter Tryz.func111,Tryz.ntmps111;go_wp2_with (first
   | (go_at_call 150;refine (ah8 _ _).mono ?_;rintro e w1 ⟨u,rfl,ho,hk⟩;rw[E0.out];rw[E3.out] at ho)
   | (at_builtin;refine aae U rfl _ _ rfl w.heap.size _ _ rfl ho _ l rfl (h.kp hk) ?c1 hk.size ?_;rotate_right;intro v' w2 ho2 hg _))
  case c1=>have:=abX l.length;omega
  go_ret2;exact ⟨_,rfl,ho2,Kp.grown hk hg ho.own_ge⟩
theorem aq9 {n:Int}(h:0≤n∧n≤65535):numB n 2=be 2 n.toNat:=by
 unfold numB;rw[if_pos]
 ·rfl
 ·unfold ael
  refine ⟨by omega,by omega,by omega,?_⟩;show n<65536
  omega
theorem RL.row2 (w:World)(e:TypeId){a b:Value}{la lb:List UInt8}(ha:Rd w a la)(hb:Rd w b lb):RL (w.alloc (.cells #[a,b] e)) (.slice (some ⟨w.heap.size,0,none⟩) 2 2) [la,lb]:=
 RL.cons (us:=[b]) (ls:=[lb]) (World.ownsRow_lit w #[a,b] 2 (Nat.le_refl _) (by unfold maxLen;omega) rfl) (ha.kp ((Kp.refl _).alloc _)) rfl (fun i hi=>by
  match i,hi with
  | 0,_=>exact hb.kp ((Kp.refl _).alloc _))
theorem RL.row3 (w:World)(e:TypeId){a b c:Value}{la lb lc:List UInt8}(ha:Rd w a la)(hb:Rd w b lb)(hc:Rd w c lc):RL (w.alloc (.cells #[a,b,c] e)) (.slice (some ⟨w.heap.size,0,none⟩) 3 3) [la,lb,lc]:=
 RL.cons (us:=[b,c]) (ls:=[lb,lc]) (World.ownsRow_lit w #[a,b,c] 3 (Nat.le_refl _) (by unfold maxLen;omega) rfl) (ha.kp ((Kp.refl _).alloc _)) rfl (fun i hi=>by
  match i,hi with
  | 0,_=>exact hb.kp ((Kp.refl _).alloc _)
  | 1,_=>exact hc.kp ((Kp.refl _).alloc _))
theorem RL.row4 (w:World)(e:TypeId){a b c d:Value}{la lb lc ld:List UInt8}(ha:Rd w a la)(hb:Rd w b lb)(hc:Rd w c lc)(hd:Rd w d ld):RL (w.alloc (.cells #[a,b,c,d] e)) (.slice (some ⟨w.heap.size,0,none⟩) 4 4) [la,lb,lc,ld]:=
 RL.cons (us:=[b,c,d]) (ls:=[lb,lc,ld]) (World.ownsRow_lit w #[a,b,c,d] 4 (Nat.le_refl _) (by unfold maxLen;omega) rfl) (ha.kp ((Kp.refl _).alloc _)) rfl (fun i hi=>by
  match i,hi with
  | 0,_=>exact hb.kp ((Kp.refl _).alloc _)
  | 1,_=>exact hc.kp ((Kp.refl _).alloc _)
  | 2,_=>exact hd.kp ((Kp.refl _).alloc _))
theorem aaw {w:World}{v:Value}{l:List UInt8}(h:Rd w v l):∃ a n c,v=.slice a n c:=by
 obtain ⟨a,c,e,_⟩:=h.shape;exact ⟨_,_,_,e⟩
theorem ab9 (n k:Int)(w:World)(hn:-9223372036854775808≤n∧n≤9223372036854775807):
  Calls Tryz.prog 209 #[.int .i64 n,.int .i64 k] w fun e w'=>(∃ r,e=.returned r∧Ow 5 w' w.heap.size r (numB n k))∧Kp w w':=by
 have HN:=Lib.hid (aez n k w hn);clear hn;go_enter Tryz.func209,Tryz.ntmps209;go_wp2_with fail;refine HN.out.mono ?_;rintro _ w1 ⟨r,rfl,o1,k1⟩;obtain ⟨a1,n1,c1,rfl⟩:=aaw o1.rd;clear HN;go_wp2_with fail;go_ret;exact ⟨⟨_,rfl,o1⟩,k1⟩
theorem abm (v:Value)(l:List UInt8)(w:World)(h:Rd w v l):
  Calls Tryz.prog 180 #[v] w fun e w'=>(∃ r,e=.returned r∧Ow 5 w' w.heap.size r (rowB l))∧Kp w w':=by
 have HR:=Lib.hid (akE v l w h);obtain ⟨a,c,rfl,_,_⟩:=h.shape;clear h;go_enter Tryz.func180,Tryz.ntmps180;go_wp2_with fail;refine HR.out.mono ?_;rintro _ w1 ⟨r,rfl,o1,k1⟩;obtain ⟨a1,n1,c1,rfl⟩:=aaw o1.rd;clear HR;go_wp2_with fail;go_ret;exact ⟨⟨_,rfl,o1⟩,k1⟩
theorem ahG (v:Value)(un:List Int)(w:World)(hv:RI w v un)(hun:∀ i∈un,0≤i∧i≤65535)(hul:un.length≤100):
  Calls Tryz.prog 244 #[v] w fun e w'=>(∃ r,e=.returned r∧Ow 5 w' w.heap.size r (unB un))∧Kp w w':=by
 have U:=ar0;have HV:=Lib.hid hv;obtain ⟨a,c,rfl,_,_⟩:=hv.shape;obtain ⟨UL,hUL⟩:∃ UL,un.length=UL:=⟨_,rfl⟩;rw[hUL] at HV hul ⊢;have HT:Hid (∀ (i:Nat) W,i<UL→Calls Tryz.prog 209 #[.int .i64 (un.getD i 0),.int .i64 2] W fun e w'=>(∃ r,e=.returned r∧Ow 5 w' W.heap.size r (be 2 (un.getD i 0).toNat))∧Kp W w'):=fun i W hi=>by
  have hm:un.getD i 0∈un:=by rw[List.getD_eq_getElem?_getD,List.getElem?_eq_getElem (by omega)];exact List.getElem_mem _
  obtain ⟨h0,h1⟩:=hun _ hm;rw[← aq9 ⟨h0,h1⟩];exact ab9 _ _ W (by omega)
 have HTK:Hid (∀ i,i<UL→unB (un.take (i+1))=unB (un.take i)++be 2 (un.getD i 0).toNat):=fun i hi=>by
  rw[← ao9];congr 1
  rw[List.take_add_one,List.getD_eq_getElem?_getD,List.getElem?_eq_getElem (by omega)];rfl
 have HTE:Hid (un.take UL=un):=by unfold Hid;rw[← hUL];exact List.take_length
 have HUL:Hid (∀ i,(unB (un.take i)).length≤200):=fun i=>by rw[afn,List.length_take];omega
 clear hUL hun hv;go_enter Tryz.func244,Tryz.ntmps244;go_wp2_with fail;go_loopw[3,8] (fun v x wr=>∃ i:Nat,i≤UL∧x=.int .i64 (i:Int)∧Ow 5 wr w.heap.size v (unB (un.take i))∧Kp w wr) (fun _ x _=>(UL - (intOf x).toNat))
 case atStart=>exact ⟨0,Nat.zero_le _,rfl,by rw[List.take_zero];exact Ow.nil _ _ _,Kp.refl _⟩
 case round=>
  obtain ⟨i,hi,rfl,ho,hkp⟩:=hrel;by_cases hlt:i<UL
  ·obtain ⟨gu,ou,rfl,_,hcu⟩:=(HV.out.kp hkp).at i hlt
   have cu2:=hcu i hlt;have i1:IntKind.i64.wrap ((i:Int)+1)=(i:Int)+1:=IntWalk.i64_in _ (by omega);have i3:(i:Int)<(UL:Int):=by omega
   have HTi:=Lib.hid (HT.out i wr hlt);have HTK1:=Lib.hid (HTK.out i hlt);have KR:=Lib.hid hkp;have HO:=Lib.hid ho;have hle:=HUL.out i;generalize un.getD i 0=X at *;obtain ⟨UB,hUB⟩:∃ UB,unB (un.take i)=UB:=⟨_,rfl⟩;rw[hUB] at HO HTK1 hle;clear hcu hkp ho HT HTK hUB HUL HTE HV;go_wp2_with fail;refine HTi.out.mono ?_;rintro _ w8 ⟨⟨r8,rfl,o8⟩,k8⟩;go_wp2_with (at_builtin;refine aae U rfl _ _ rfl w.heap.size _ UB rfl (HO.out.kp k8) _ _ rfl o8.rd (by rw[aak];omega) (KR.out.trans k8).size ?_;intro v9 w9 o9 g9 _;have K9:=Lib.hid (Kp.grown (KR.out.trans k8) g9 HO.out.own_ge))
   go_roundw
   case rel=>exact ⟨i+1,by omega,by go_num,by rw[HTK1.out];exact o9,K9.out⟩
   case measure=>simp[intOf];omega
  ·obtain rfl:i=UL:=by omega
   rw[HTE.out] at ho;have hle:¬(i:Int)<(i:Int):=by omega
   obtain ⟨av,nv,cv,rfl⟩:=aaw ho.rd;have HO:=Lib.hid (And.intro ho hkp);clear hkp ho HT HTK HUL HTE HV;go_wp2_with fail;go_ret;exact ⟨⟨_,rfl,HO.out.1⟩,HO.out.2⟩
theorem aeJ (x:UInt8)(v:Value)(ls:List (List UInt8))(w:World)(h:RL w v ls)(hp:0<ls.flatten.length)(hb:ls.flatten.length≤1900)(hn:ls.length≤1000):
  Calls Tryz.prog 179 #[.int .u8 (x.toNat:Int),v] w fun e w'=>(∃ r,e=.returned r∧Ow 5 w' w.heap.size r (aaH ([x]++ls.flatten)))∧Kp w w':=by
 have U:=ar0;have HC:=Lib.hid (fun W (hW:Kp w W)=>abW v ls W (h.kp hW) hp (by omega) (by omega));obtain ⟨a,c,rfl,_,_⟩:=h.shape;have HL:=Lib.hid (Ow.lit w 5 w.heap.size 1 #[.int .u8 (x.toNat:Int)] [x] (Nat.le_refl _) rfl (by omega) rfl);have HB:=Lib.hid (And.intro hp hb);clear h hp hb hn;go_enter Tryz.func179,Tryz.ntmps179;go_wp2_with fail;refine (HC.out _ ((Kp.refl _).alloc _)).mono ?_;rintro _ w1 ⟨⟨r1,rfl,o1⟩,k1⟩;have K1:=Lib.hid (((Kp.refl w).alloc (.cells #[.int .u8 (x.toNat:Int)] 5)).trans k1);have HL1:=Lib.hid (HL.out.kp k1);clear k1 HL HC;go_wp2_with (at_builtin;refine aae U rfl _ _ rfl w.heap.size _ [x] rfl HL1.out _ _ rfl o1.rd (by have:=HB.out;simp only[List.length_cons,List.length_nil];omega) K1.out.size ?_;intro v2 w2 o2 g2 _;have K2:=Lib.hid (Kp.grown K1.out g2 HL1.out.own_ge))
 refine (anK v2 ([x]++ls.flatten) w2 o2.rd (by have:=HB.out;simp only[List.length_append,List.length_cons,List.length_nil];omega)).mono ?_;rintro _ w3 ⟨⟨a3,c3,rfl,o3⟩,k3⟩;have KE:=Lib.hid (And.intro o3 (K2.out.trans k3));clear o3 k3 o2 g2 HL1 o1;go_wp2_with fail;go_ret;exact ⟨⟨_,rfl,KE.out.1.mono K2.out.size⟩,KE.out.2⟩
end Go.Proofs.YthmhklmkgkfcpaaGreatDoor
namespace Go.Proofs.YthmhklmkgkfcpaaGreatDoor
open Go.RowKit Go.ChangeShapes Go.WideShapes Go.Deep
instance:Inhabited Nod:=⟨aao⟩
section
variable {H : Type} {enc : TypeId × Value → H} {P : Program} {w : World} {base : Nat} {spare : Nat → Bool} {held : Bool}
theorem RI.of_one {t e:TypeId}{fuel:Nat}{v:Value}{x:DataW H × List MemPlace}(ht:P.underlying t=some (.slice e))(he:P.underlying e=some (.int .i64))(hc:P.cellsOf e=1)
  (h:DataW.trod enc P w base spare held fuel t [v]=some x):∃ l,RI w v l:=by
 rcases open_ints ht he hc h with ⟨hcs,_⟩ | ⟨a,len,cap,zs,hcs,_,hl,hm,hz,_,hcell,_⟩
 ·cases hcs
  exact ⟨[],RI.nil w⟩
 ·cases hcs
  have hzl:len≤zs.length:=by rw[hz];split <;> omega
  have hlen:((zs.take len).map nI).length=len:=by simp;omega
  refine ⟨zs.take len,some a,cap,by rw[hlen],by rw[hlen];exact hl,hm,fun h=>(by cases h),fun y hy i hi=>?_⟩;cases hy;rw[hlen] at hi;rw[hcell i (by omega)];simp[nI,List.getD_eq_getElem?_getD,List.getElem?_eq_getElem (show i<zs.length by omega)]
theorem NL.of_cells {t e:TypeId}{f0 f1 f2 f3 f4:Field}{fuel:Nat}{cs:List Value}{x:DataW H × List MemPlace}{eb ei:TypeId}(ht:P.underlying t=some (.slice e))(he:P.underlying e=some (.struct #[f0,f1,f2,f3,f4]))
  (hone:oneCellFields P #[f0,f1,f2,f3,f4]=true) (hC:P.cellsOf e=5) (h0:P.underlying f0.type=some (.int .i64)) (h1:P.underlying f1.type=some (.int .i64)) (h2:P.underlying f2.type=some (.slice eb)) (h3:P.underlying f3.type=some (.slice ei)) (h4:P.underlying f4.type=some (.slice eb))
  (hb:P.underlying eb=some (.int .u8)) (hbc:P.cellsOf eb=1) (hi:P.underlying ei=some (.int .i64)) (hic:P.cellsOf ei=1)
  (h:DataW.trod enc P w base spare held fuel t cs=some x):∃ v l,cs=[v]∧NL w v l:=by
 rcases open_slice ht h with ⟨hcs,_⟩ | ⟨a,len,cap,m,n,D,Pl,hcs,_,hl,hm,hmm,_,hel⟩
 ·exact ⟨_,[],hcs,NL.nil w⟩
 ·have hlm:len≤m:=by rw[hmm];split <;> omega
  rw[hC] at hel;have key:∀ i,i<len→∃ nd:Nod,∃ p u q,(w.cell? (a.add (i*5))=some (.int .i64 nd.kind)∧w.cell? ((a.add (i*5)).add 1)=some (.int .i64 nd.name)∧w.cell? ((a.add (i*5)).add 2)=some p∧w.cell? ((a.add (i*5)).add 3)=some u∧w.cell? ((a.add (i*5)).add 4)=some q)∧NIn w nd p u q:=by
   intro i hil;obtain ⟨cs',hcc,htr⟩:=hel i (by omega);obtain ⟨_,hl5,hat⟩:=World.cells?_some hcc;obtain ⟨xs,n',_,_,_,hxs,hg⟩:=DataW.trod_struct he htr;obtain ⟨o0,k0⟩:=hone_of hone 0 f0 rfl;obtain ⟨o1,k1⟩:=hone_of hone 1 f1 rfl;obtain ⟨o2,k2⟩:=hone_of hone 2 f2 rfl;obtain ⟨o3,k3⟩:=hone_of hone 3 f3 rfl;obtain ⟨o4,k4⟩:=hone_of hone 4 f4 rfl;match cs',hl5 with
   | [c0,c1,c2,c3,c4],_=>
    have hxl:xs.length=5:=hxs;match xs,hxl with
    | [y0,y1,y2,y3,y4],_=>
     have g0:DataW.trod enc P w base spare held n' f0.type [c0]=some y0:=by simpa [o0,k0] using hg 0 f0 rfl
     have g1:DataW.trod enc P w base spare held n' f1.type [c1]=some y1:=by simpa [o1,k1] using hg 1 f1 rfl
     have g2:DataW.trod enc P w base spare held n' f2.type [c2]=some y2:=by simpa [o2,k2] using hg 2 f2 rfl
     have g3:DataW.trod enc P w base spare held n' f3.type [c3]=some y3:=by simpa [o3,k3] using hg 3 f3 rfl
     have g4:DataW.trod enc P w base spare held n' f4.type [c4]=some y4:=by simpa [o4,k4] using hg 4 f4 rfl
     obtain ⟨n0,e0,_,_⟩:=DataW.trod_int h0 g0;obtain ⟨n1,e1,_,_⟩:=DataW.trod_int h1 g1;cases e0;cases e1;obtain ⟨l2,r2⟩:=Rd.of_one h2 hb hbc g2;obtain ⟨l3,r3⟩:=RI.of_one h3 hi hic g3;obtain ⟨l4,r4⟩:=Rd.of_one h4 hb hbc g4;refine ⟨⟨n0,n1,l2,l3,l4⟩,c2,c3,c4,⟨?_,hat 1 (by omega),hat 2 (by omega),hat 3 (by omega),hat 4 (by omega)⟩,r2,r3,r4⟩;have:=hat 0 (by omega);rwa [show (a.add (i*5)).add 0=a.add (i*5) by unfold Addr.add;split <;> simp_all] at this
  obtain ⟨l,hll,hlq⟩:=aex len _ key aao;refine ⟨_,l,by rw[hcs,hll],some a,cap,rfl,by omega,hm,fun h=>(by cases h),fun h0=>?_⟩;rw[hll] at h0;obtain ⟨b,off,spot⟩:=a;obtain ⟨p,u,q,⟨hc0,_⟩,_⟩:=hlq 0 h0;have hs:spot=none:=by simpa [Addr.add] using World.cell?_spot hc0
  subst hs;refine ⟨b,off,rfl,World.block_lt_of_cell? w _ hc0,fun i hi=>?_⟩;rw[hll] at hi;obtain ⟨p,u,q,⟨d0,d1,d2,d3,d4⟩,hin⟩:=hlq i hi;simp only[Addr.add_mid] at d0 d1 d2 d3 d4;refine ⟨p,u,q,fun j v hj=>?_,hin⟩;have hj5:j<5:=(List.getElem?_eq_some_iff.1 hj).1;match j,hj5 with
  | 0,_=>cases hj;exact d0
  | 1,_=>cases hj;exact d1
  | 2,_=>cases hj;exact d2
  | 3,_=>cases hj;exact d3
  | 4,_=>cases hj;exact d4
end
end Go.Proofs.YthmhklmkgkfcpaaGreatDoor
