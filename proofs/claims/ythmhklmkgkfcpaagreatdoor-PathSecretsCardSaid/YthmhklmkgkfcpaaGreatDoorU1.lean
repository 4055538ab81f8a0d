import Derived.WalkKit
import Derived.Laws.AppendOwnNone
import Derived.Laws.IdiomStrings
import Derived.Laws.BytesArg
import Derived.Laws.BitsLemmas
import Derived.Lib.UnsafeStr
set_option linter.unusedVariables false
set_option linter.unusedSimpArgs false
set_option maxHeartbeats 8000000
set_option maxRecDepth 100000
namespace Go.Proofs.YthmhklmkgkfcpaaGreatDoor
open Go.RowKit
def Kp (w w':World):Prop:=Below w.heap.size w w'
theorem Kp.refl (w:World):Kp w w:=Below.refl _ _
theorem Kp.trans {a b c:World}(h:Kp a b)(k:Kp b c):Kp a c:=Below.trans h (Below.mono k h.size)
theorem Kp.drew {a b:World}(h:Kp a b):Kp a b.drew:=Below.drew h
theorem Kp.alloc {a b:World}(h:Kp a b)(o:Obj):Kp a (b.alloc o):=Below.alloc h h.size o
theorem Kp.cell {w w':World}(h:Kp w w'){p:Addr}{v:Value}(hv:w.cell? p=some v):w'.cell? p=some v:=
 (Below.cell h (World.block_lt_of_cell? w p hv)).trans hv
def Rd (w:World)(v:Value)(l:List UInt8):Prop:=
 ∃ a c,v=.slice a l.length c∧l.length≤c∧c≤maxLen∧(a=none→c=0) ∧
  ∀ x,a=some x→∀ i,(h:i<l.length)→w.cell? (x.add i)=some (.int .u8 ((l[i]'h).toNat:Int))
theorem Rd.kp {w w':World}{v:Value}{l:List UInt8}(h:Rd w v l)(k:Kp w w'):Rd w' v l:=by
 obtain ⟨a,c,rfl,h1,h2,h3,h4⟩:=h;exact ⟨a,c,rfl,h1,h2,h3,fun x hx i hi=>k.cell (h4 x hx i hi)⟩
theorem Rd.at {w:World}{a:Option Addr}{n c:Nat}{l:List UInt8}(h:Rd w (.slice a n c) l)(k:Nat)(hk:k<n):
  ∃ b off,a=some ⟨b,off,none⟩∧b<w.heap.size∧∀ i,i<n→w.cell? ⟨b,off+i,none⟩=some (.int .u8 ((l.getD i 0).toNat:Int)):=by
 obtain ⟨a',c',e,h1,h2,h3,h4⟩:=h
 simp only[Value.slice.injEq] at e
 obtain ⟨rfl,rfl,rfl⟩:=e
 cases a with
 | none=>have:=h3 rfl;omega
 | some x=>
  obtain ⟨b,off,spot⟩:=x
  have h0:=h4 _ rfl 0 (by omega)
  have hs:spot=none:=by simpa [Addr.add] using World.cell?_spot h0
  subst hs
  refine ⟨b,off,rfl,World.block_lt_of_cell? w _ h0,fun i hi=>?_⟩
  have:=h4 _ rfl i hi
  rw[List.getD_eq_getElem?_getD,List.getElem?_eq_getElem hi,Option.getD_some,← this]
  congr 1
  unfold Addr.add
  split <;> simp_all
theorem Rd.len {w:World}{a:Option Addr}{n c:Nat}{l:List UInt8}(h:Rd w (.slice a n c) l):n=l.length∧n≤c∧c≤maxLen:=by
 obtain ⟨a',c',e,h1,h2,h3,h4⟩:=h;simp only[Value.slice.injEq] at e;obtain ⟨rfl,rfl,rfl⟩:=e;exact ⟨rfl,h1,h2⟩
theorem Rd.shape {w:World}{v:Value}{l:List UInt8}(h:Rd w v l):∃ a c,v=.slice a l.length c∧l.length≤c∧c≤maxLen:=by
 obtain ⟨a',c',e,h1,h2,h3,h4⟩:=h;exact ⟨_,_,e,h1,h2⟩
def val (l:List UInt8):Nat:=l.foldl (fun n b=>256*n+b.toNat) 0
theorem aeB (l:List UInt8)(k:Nat)(h:k<l.length):l.take (k+1)=l.take k++[l.getD k 0]:=by
 rw[List.take_succ_eq_append_getElem h,List.getD_eq_getElem?_getD,List.getElem?_eq_getElem h];rfl
def be:Nat→Nat→List UInt8
 | 0,_=>[]
 | w+1,n=>be w (n / 256)++[UInt8.ofNat n]
theorem aak:∀ w n,(be w n).length=w
 | 0,_=>rfl
 | w+1,n=>by simp[be,aak w]
theorem aeC {P:Program}(w:World)(src dst e:TypeId)(v:Value)(l:List UInt8)(h:Rd w v l)(hs:P.underlying src=some (.slice e))(he:P.underlying e=some (.int .u8))(hd:P.underlying dst=some .string):
  (convert src dst v).run P w=.ok (.string ⟨l.toArray⟩) w:=by
 obtain ⟨a,c,rfl,h1,h2,h3,h4⟩:=h
 cases a with
 | none=>
  have hl:l=[]:=by have:=h3 rfl;exact List.eq_nil_of_length_eq_zero (by omega)
  subst hl
  rw[run_convert_bytes_nil w src e hs he _ _ dst hd]
  rfl
 | some x=>exact run_convert_bytes_back w src dst e x c l hs he hd (h4 x rfl)
theorem aeo:∀ t n,be (t+1) n=UInt8.ofNat (n / 256 ^ t) :: be t n
 | 0,n=>by simp[be]
 | t+1,n=>by
  rw[be,aeo t (n / 256),be,List.cons_append,Nat.div_div_eq_div_mul,Nat.pow_succ,Nat.mul_comm 256]
def Ow (e:TypeId)(w:World)(B:Nat)(v:Value)(l:List UInt8):Prop:=w.ownsRow B e 1 v l.length (Lib.byteCells l)
theorem aaf (l:List UInt8):(Lib.byteCells l).length=l.length:=by simp[Lib.byteCells]
theorem aaO (l:List UInt8)(i:Nat)(h:i<l.length):(Lib.byteCells l)[i]?=some (.int .u8 ((l[i]'h).toNat:Int)):=by
 simp[Lib.byteCells,List.getElem?_map,List.getElem?_eq_getElem h]
theorem acj (l m:List UInt8):Lib.byteCells (l++m)=Lib.byteCells l++Lib.byteCells m:=by simp[Lib.byteCells]
theorem Ow.shape {e:TypeId}{w:World}{B:Nat}{v:Value}{l:List UInt8}(h:Ow e w B v l):
  (v=.slice none 0 0∧l=[])∨∃ g c,v=.slice (some ⟨g,0,none⟩) l.length c∧B≤g∧g<w.heap.size∧l.length≤c∧c≤maxLen:=by
 rcases h.2 with ⟨rfl,h0⟩ | ⟨g,cap,cur,rfl,hb,hg,hn,hm,_⟩
 ·exact .inl ⟨rfl,List.eq_nil_of_length_eq_zero h0⟩
 ·exact .inr ⟨g,cap,rfl,hb,(Array.getElem?_eq_some_iff.1 hg).1,hn,hm⟩
theorem Ow.rd {e:TypeId}{w:World}{B:Nat}{v:Value}{l:List UInt8}(h:Ow e w B v l):Rd w v l:=by
 rcases h.shape with ⟨rfl,rfl⟩ | ⟨g,c,rfl,_,_,hc,hm⟩
 ·exact ⟨none,0,rfl,Nat.le_refl _,Nat.zero_le _,fun _=>rfl,fun x hx=>by cases hx⟩
 ·refine ⟨_,c,rfl,hc,hm,fun h=>(by cases h),fun x hx i hi=>?_⟩
  cases hx;have:=World.ownsRow.cellAt h i (by omega);rw[aaO l i hi] at this;rw[← this];congr 1
  unfold Addr.add;split <;> simp_all
theorem Ow.kp {e:TypeId}{w w':World}{B:Nat}{v:Value}{l:List UInt8}(h:Ow e w B v l)(k:Kp w w'):Ow e w' B v l:=by
 refine ⟨h.1,?_⟩;rcases h.2 with hn | ⟨g,cap,cur,rfl,hb,hg,rest⟩
 ·exact .inl hn
 ·exact .inr ⟨g,cap,cur,rfl,hb,(Below.block k g (Array.getElem?_eq_some_iff.1 hg).1).trans hg,rest⟩
theorem Ow.mono {e:TypeId}{w:World}{B B':Nat}{v:Value}{l:List UInt8}(h:Ow e w B v l)(hb:B'≤B):Ow e w B' v l:=by
 refine ⟨h.1,?_⟩;rcases h.2 with hn | ⟨g,cap,cur,rfl,hb',rest⟩
 ·exact .inl hn
 ·exact .inr ⟨g,cap,cur,rfl,Nat.le_trans hb hb',rest⟩
theorem Ow.nil (e:TypeId)(w:World)(B:Nat):Ow e w B (.slice none 0 0) []:=World.ownsRow_nil _ _ _ _
theorem Kp.grown {w0 w w':World}{v:Value}(h:Kp w0 w)(hg:w.grownBy w' v.ownBlock)(hv:∀ k,v.ownBlock=some k→w0.heap.size≤k):Kp w0 w':=
 Below.grown h hg h.size hv
theorem Ow.own_ge {e:TypeId}{w:World}{B:Nat}{v:Value}{l:List UInt8}(h:Ow e w B v l):∀ k,v.ownBlock=some k→B≤k:=fun k hk=>(World.ownsRow.lt h k hk).1
theorem Rd.cut {w:World}{a:Option Addr}{n c:Nat}{l:List UInt8}(h:Rd w (.slice a n c) l)(lo hi:Nat)(h1:lo≤hi)(h2:hi≤n)(a':Option Addr)(n' c':Nat)
  (ha:a'=if c=lo then a else a.map (·.add lo)) (hn:n'=hi - lo) (hc:c'=c - lo):Rd w (.slice a' n' c') ((l.drop lo).take (hi - lo)):=by
 obtain ⟨a0,c0,e,e1,e2,e3,e4⟩:=h;simp only[Value.slice.injEq] at e;obtain ⟨rfl,rfl,rfl⟩:=e;subst ha hn hc;have hl:((l.drop lo).take (hi - lo)).length=hi - lo:=by simp;omega
 refine ⟨_,c - lo,by rw[hl],by omega,by omega,fun h=>?_,fun x hx i hi'=>?_⟩
 ·split at h
  ·have:=e3 h;omega
  ·cases a with
   | none=>have:=e3 rfl;omega
   | some y=>simp at h
 ·rw[hl] at hi'
  split at hx
  ·omega
  ·cases a with
   | none=>have:=e3 rfl;omega
   | some y=>
    simp only[Option.map_some,Option.some.injEq] at hx;subst hx;have hy:=e4 y rfl (lo+i) (by omega);have hadd:(y.add lo).add i=y.add (lo+i):=by
     unfold Addr.add;by_cases h0:lo=0 <;> by_cases h1:i=0 <;> simp[h0,h1,Nat.add_assoc]
    rw[hadd,hy];simp
structure U8 (P:Program)(t e:TypeId):Prop where
 ht:P.underlying t=some (.slice e)
 hi:∃ i,P.info? e=some i∧i.zero=some (.int .u8 0)∧i.size=1∧i.bytes=1
theorem U8.mk' {P:Program}{t e:TypeId}(ht:P.underlying t=some (.slice e))(h:(P.info? e).map (fun i=>(i.zero,i.size,i.bytes))=some (some (.int .u8 0),1,1)):U8 P t e:=by
 obtain ⟨i,hi,hz0,hz1,hz2⟩:=info_parts h;exact ⟨ht,i,hi,hz0,hz1,hz2⟩
theorem Rd.box (w:World)(e:TypeId)(x:Int)(b:UInt8)(h:x=b.toNat):Rd (w.alloc (.cells #[.int .u8 x] e)) (.slice (some ⟨w.heap.size,0,none⟩) 1 1) [b]:=by
 subst h;refine ⟨_,1,rfl,Nat.le_refl _,by unfold maxLen;omega,fun h=>(by cases h),fun y hy i hi=>?_⟩;cases hy;have:i=0:=by simp at hi;exact hi
 subst this;simp[Addr.add,World.cell?,-World.alloc_eq,World.alloc]
theorem aae {P:Program}{w:World}{t e:TypeId}(U:U8 P t e){ops:Array Oper}{rest:List Oper}{o:Oper}{a:Act}{Q:Exit→Act→World→Prop}(hgd:o.guard=none)(s x:Operand)
  (ho:o.op=.call { callee:=.builtin .append,args:=#[s,x],argTypes:=#[t,t] })
  (B:Nat) (v:Value) (l:List UInt8) (hs:a.eval s=v) (hown:Ow e w B v l) (u:Value) (m:List UInt8) (hx:a.eval x=u) (hu:Rd w u m)
  (hlen:l.length+m.length≤140737488355328) (hbase:B≤w.heap.size)
  (h:∀ v' w',Ow e w' B v' (l++m)→w.grownBy w' v.ownBlock→(v'=.slice none 0 0→l=[]∧m=[])→wpList P ops Q rest (a.put o.dst v') w'):wpList P ops Q (o :: rest) a w:=by
 obtain ⟨i,hi,hz,hsize,hby⟩:=U.hi
 obtain ⟨ad,c,rfl,hc,hm,hnil,hcell⟩:=hu
 cases ad with
 | none=>
  have hc0:=hnil rfl
  have hm0:m=[]:=List.eq_nil_of_length_eq_zero (by omega)
  subst hm0
  subst hc0
  refine wpList_append_own_none hgd s x t ho B e i 1 U.ht hi v l.length (Lib.byteCells l) hs hown hx ?_
  refine h v w (by simpa using hown) ⟨rfl,rfl,rfl,Nat.le_refl _,fun _ _ _=>rfl⟩ (fun e=>?_)
  subst e
  rcases hown.shape with ⟨_,h⟩ | ⟨g,c,h,_⟩
  ·exact ⟨h,rfl⟩
  ·cases h
 | some ad=>
  refine wpList_append_own w hgd s x t ho B e i (.int .u8 0) 1 1 U.ht hi hz hsize hby rfl (by decide) v l.length (Lib.byteCells l) hs hown ad m.length c (Lib.byteCells m) hx (by rw[aaf];omega) (fun j z hj=>?_) (fun z hz=>?_) (by unfold maxLen;omega) (by omega) hbase
   (fun v' w' h1 h2 h3=>h v' w' (by unfold Ow;rw[List.length_append,acj];exact h1) h2 (fun e=>?_))
  ·have hjl:j<m.length:=by
    have:=(List.getElem?_eq_some_iff.1 hj).1
    rwa [aaf] at this
   rw[aaO m j hjl] at hj
   cases hj
   exact hcell ad rfl j hjl
  ·obtain ⟨b,_,rfl⟩:=List.mem_map.1 hz
   rfl
  ·obtain ⟨e1,e2⟩:=h3.1 e
   subst e1
   rcases hown.shape with ⟨_,h⟩ | ⟨g,c,h,_⟩
   ·exact ⟨h,List.eq_nil_of_length_eq_zero e2⟩
   ·cases h
theorem Below.grown' {e:TypeId}{B:Nat}{w0 w w':World}{v:Value}{l:List UInt8}(h:Below B w0 w)(hg:w.grownBy w' v.ownBlock)(hB:B≤w.heap.size)(hv:Ow e w B v l):Below B w0 w':=
 Below.grown h hg hB hv.own_ge
def pw (k:Nat):Nat:=256 ^ k
theorem aq0 (k:Nat):0<pw k:=Nat.pow_pos (by decide)
theorem amT (k:Nat):pw (k+1)=256*pw k:=by unfold pw;rw[Nat.pow_succ];omega
theorem aq1 (k:Nat)(h:k≤6):pw k≤281474976710656:=by
 have h2:256 ^ k≤256 ^ 6:=Nat.pow_le_pow_right (by omega) h;have h3:(256:Nat) ^ 6=281474976710656:=by decide
 unfold pw;omega
theorem pw_le (k:Nat)(h:k≤7):pw k≤72057594037927936:=by
 have h2:256 ^ k≤256 ^ 7:=Nat.pow_le_pow_right (by omega) h;have h3:(256:Nat) ^ 7=72057594037927936:=by decide
 unfold pw;omega
theorem Rd.cutAt {w:World}{b off n c:Nat}{l:List UInt8}(h:Rd w (.slice (some ⟨b,off,none⟩) n c) l)(lo k:Nat)(h1:lo+k≤n)(h2:lo<c):
  Rd w (.slice (some ⟨b,off+lo,none⟩) k (c - lo)) ((l.drop lo).take k):=by
 have:=h.cut lo (lo+k) (by omega) h1 _ k (c - lo) rfl (by omega) rfl;rw[if_neg (by omega)] at this;have e:(⟨b,off,none⟩:Addr).add lo=⟨b,off+lo,none⟩:=by unfold Addr.add;split <;> simp_all
 simpa [e] using this
theorem Ow.lit (w:World)(e:TypeId)(B n:Nat)(cs:Array Value)(l:List UInt8)(hB:B≤w.heap.size)(hn:l.length=n)(hm:n≤1000000)(hc:cs.toList=Lib.byteCells l):
  Ow e (w.alloc (.cells cs e)) B (.slice (some ⟨w.heap.size,0,none⟩) n n) l:=by
 subst hn;unfold Ow;rw[← hc];exact World.ownsRow_lit w cs l.length hB (by unfold maxLen;omega) (by rw[← Array.length_toList,hc,aaf];omega)
end Go.Proofs.YthmhklmkgkfcpaaGreatDoor
namespace Go.Proofs.YthmhklmkgkfcpaaGreatDoor
def allB:Nat→(Nat→Bool)→Bool
 | 0,_=>true
 | n+1,p=>p n && allB n p
theorem aaB {n:Nat}{p:Nat→Bool}(h:allB n p=true):∀ i,i<n→p i=true:=by
 induction n with
 | zero=>intro i hi;omega
 | succ n ih=>
  intro i hi
  rw[allB,Bool.and_eq_true] at h
  by_cases e:i=n
  ·subst e;exact h.1
  ·exact ih h.2 i (by omega)
def xtN (x:Nat):Nat:=bif Nat.ble 256 (2*x) then (2*x) ^^^ 283 else 2*x
def mulN:Nat→Nat→Nat→Nat→Nat
 | 0,out,_,_=>out
 | k+1,out,x,y=>mulN k (bif Nat.beq (y % 2) 1 then out ^^^ x else out) (xtN x) (y / 2)
def gm (a b:Nat):Nat:=mulN 8 0 a b
theorem xor_lt {x y:Nat}(hx:x<256)(hy:y<256):x ^^^ y<256:=Nat.xor_lt_two_pow (n:=8) hx hy
theorem arm:allB 256 (fun x=>Nat.ble (xtN x) 255)=true:=by decide +kernel
theorem aqt {x:Nat}(h:x<256):xtN x<256:=by
 have:=aaB arm x h;have:=Nat.le_of_ble_eq_true this;omega
theorem anF:allB 8 (fun k=>allB 256 fun x=>Nat.blt x (2 ^ k) || !(Nat.blt x (2 ^ (k+1))) || (Nat.beq x ((x - 2 ^ k) ^^^ 2 ^ k) && Nat.blt (x - 2 ^ k) (2 ^ k)))=true:=by decide +kernel
theorem anG (k x:Nat)(hk:k<8)(hx:x<256)(h1:2 ^ k≤x)(h2:x<2 ^ (k+1)):x=(x - 2 ^ k) ^^^ 2 ^ k∧x - 2 ^ k<2 ^ k:=by
 have h:=aaB (aaB anF k hk) x hx;have n1:Nat.blt x (2 ^ k)=false:=by
  cases h3:Nat.blt x (2 ^ k)
  ·rfl
  ·have:=Nat.le_of_ble_eq_true h3;omega
 have n2:Nat.blt x (2 ^ (k+1))=true:=Nat.ble_eq_true_of_le h2;simp only[n1,n2,Bool.not_true,Bool.or_false,Bool.false_or,Bool.and_eq_true] at h;exact ⟨Nat.eq_of_beq_eq_true h.1,Nat.le_of_ble_eq_true h.2⟩
theorem agD {f g:Nat→Nat}(hf:∀ x y,x<256→y<256→f (x ^^^ y)=f x ^^^ f y)(hg:∀ x y,x<256→y<256→g (x ^^^ y)=g x ^^^ g y)(h:∀ k,k<8→f (2 ^ k)=g (2 ^ k)):∀ x,x<256→f x=g x:=by
 have f0:f 0=0:=by have:=hf 0 0 (by omega) (by omega);simpa using this
 have g0:g 0=0:=by have:=hg 0 0 (by omega) (by omega);simpa using this
 have key:∀ k,k≤8→∀ x,x<2 ^ k→f x=g x:=by
  intro k;induction k with
  | zero=>
   intro _ x hx;obtain rfl:x=0:=by simpa using hx
   rw[f0,g0]
  | succ k ih=>
   intro hk x hx;have hb:2 ^ (k+1)≤2 ^ 8:=Nat.pow_le_pow_right (by omega) hk;by_cases hlt:x<2 ^ k
   ·exact ih (by omega) x hlt
   ·obtain ⟨e,hl⟩:=anG k x (by omega) (by omega) (by omega) hx
    have h2:(2:Nat) ^ k<256:=by have:2 ^ k<2 ^ 8:=Nat.pow_lt_pow_right (by omega) (by omega);omega
    rw[e,hf _ _ (by omega) h2,hg _ _ (by omega) h2,ih (by omega) _ hl,h k (by omega)]
 exact fun x hx=>key 8 (Nat.le_refl _) x hx
theorem al3:allB 256 (fun x=>allB 256 fun y=>Nat.beq (xtN (x ^^^ y)) (xtN x ^^^ xtN y))=true:=by decide +kernel
theorem arn {x y:Nat}(hx:x<256)(hy:y<256):xtN (x ^^^ y)=xtN x ^^^ xtN y:=Nat.eq_of_beq_eq_true (aaB (aaB al3 x hx) y hy)
theorem xor4 (a b c d:Nat):(a ^^^ b) ^^^ (c ^^^ d)=(a ^^^ c) ^^^ (b ^^^ d):=by
 rw[Nat.xor_assoc,Nat.xor_assoc,← Nat.xor_assoc b,Nat.xor_comm b c,Nat.xor_assoc]
theorem anH:∀ k out x y,out<256→x<256→mulN k out x y<256
 | 0,_,_,_,h,_=>h
 | k+1,out,x,y,h,hx=>by
  refine anH k _ _ _ ?_ (aqt hx)
  cases Nat.beq (y % 2) 1
  ·exact h
  ·exact xor_lt h hx
theorem ajA:∀ k o1 o2 x1 x2 y,x1<256→x2<256→mulN k (o1 ^^^ o2) (x1 ^^^ x2) y=mulN k o1 x1 y ^^^ mulN k o2 x2 y
 | 0,_,_,_,_,_,_,_=>rfl
 | k+1,o1,o2,x1,x2,y,h1,h2=>by
  show mulN k (bif Nat.beq (y % 2) 1 then o1 ^^^ o2 ^^^ (x1 ^^^ x2) else o1 ^^^ o2) (xtN (x1 ^^^ x2)) (y / 2)=mulN k (bif Nat.beq (y % 2) 1 then o1 ^^^ x1 else o1) (xtN x1) (y / 2) ^^^ mulN k (bif Nat.beq (y % 2) 1 then o2 ^^^ x2 else o2) (xtN x2) (y / 2)
  rw[arn h1 h2,← ajA k _ _ _ _ _ (aqt h1) (aqt h2)]
  cases Nat.beq (y % 2) 1
  ·rfl
  ·simp only[cond_true];rw[xor4]
theorem aqu (y z:Nat):Nat.beq ((y ^^^ z) % 2) 1=xor (Nat.beq (y % 2) 1) (Nat.beq (z % 2) 1):=by
 have h:(y ^^^ z) % 2=(y % 2 ^^^ z % 2):=by
  have:=Nat.xor_mod_two_pow (a:=y) (b:=z) (n:=1);simpa using this
 rw[h];rcases Nat.mod_two_eq_zero_or_one y with h1 | h1 <;> rcases Nat.mod_two_eq_zero_or_one z with h2 | h2 <;> rw[h1,h2] <;> rfl
theorem ao6 (y z:Nat):(y ^^^ z) / 2=y / 2 ^^^ z / 2:=by
 have:=Nat.xor_div_two_pow (a:=y) (b:=z) (n:=1);simpa using this
theorem ajB:∀ k o1 o2 x y z,mulN k (o1 ^^^ o2) x (y ^^^ z)=mulN k o1 x y ^^^ mulN k o2 x z
 | 0,_,_,_,_,_=>rfl
 | k+1,o1,o2,x,y,z=>by
  show mulN k (bif Nat.beq ((y ^^^ z) % 2) 1 then o1 ^^^ o2 ^^^ x else o1 ^^^ o2) (xtN x) ((y ^^^ z) / 2)=mulN k (bif Nat.beq (y % 2) 1 then o1 ^^^ x else o1) (xtN x) (y / 2) ^^^ mulN k (bif Nat.beq (z % 2) 1 then o2 ^^^ x else o2) (xtN x) (z / 2)
  rw[ao6,aqu,← ajB]
  cases Nat.beq (y % 2) 1 <;> cases Nat.beq (z % 2) 1
  ·rfl
  ·simp only[Bool.false_xor,cond_true,cond_false];rw[Nat.xor_assoc]
  ·simp only[Bool.xor_false,cond_true,cond_false];rw[Nat.xor_assoc,Nat.xor_assoc,Nat.xor_comm o2 x]
  ·simp only[Bool.xor_self,cond_true,cond_false];rw[xor4,Nat.xor_self,Nat.xor_zero]
theorem al4 {a b:Nat}(ha:a<256):gm a b<256:=anH 8 0 a b (by omega) ha
theorem aes (a b c:Nat)(ha:a<256)(hb:b<256):gm (a ^^^ b) c=gm a c ^^^ gm b c:=by
 have:=ajA 8 0 0 a b c ha hb;rwa [Nat.xor_self] at this
theorem adn (a b c:Nat):gm a (b ^^^ c)=gm a b ^^^ gm a c:=by
 have:=ajB 8 0 0 a b c;rwa [Nat.xor_self] at this
theorem al5:allB 8 (fun i=>allB 8 fun j=>Nat.beq (gm (2 ^ i) (2 ^ j)) (gm (2 ^ j) (2 ^ i)))=true:=by decide +kernel
theorem p2_lt {k:Nat}(h:k<8):2 ^ k<256:=by have:2 ^ k<2 ^ 8:=Nat.pow_lt_pow_right (by omega) h;omega
theorem agE {a b:Nat}(ha:a<256)(hb:b<256):gm a b=gm b a:=by
 refine agD (f:=fun x=>gm x b) (g:=fun x=>gm b x) (fun x y hx hy=>aes x y b hx hy) (fun x y _ _=>adn b x y) (fun i hi=>?_) a ha;refine agD (f:=fun x=>gm (2 ^ i) x) (g:=fun x=>gm x (2 ^ i)) (fun x y _ _=>adn _ x y) (fun x y hx hy=>aes x y _ hx hy) (fun j hj=>?_) b hb;exact Nat.eq_of_beq_eq_true (aaB (aaB al5 i hi) j hj)
theorem akt:allB 8 (fun i=>allB 8 fun j=>allB 8 fun k=>Nat.beq (gm (gm (2 ^ i) (2 ^ j)) (2 ^ k)) (gm (2 ^ i) (gm (2 ^ j) (2 ^ k))))=true:=by decide +kernel
theorem aln {a b c:Nat}(ha:a<256)(hb:b<256)(hc:c<256):gm (gm a b) c=gm a (gm b c):=by
 refine agD (f:=fun x=>gm (gm x b) c) (g:=fun x=>gm x (gm b c)) (fun x y hx hy=>by show gm (gm (x ^^^ y) b) c=_;rw[aes x y b hx hy,aes _ _ c (al4 hx) (al4 hy)]) (fun x y hx hy=>aes x y _ hx hy) (fun i hi=>?_) a ha;have h2:=p2_lt hi;refine agD (f:=fun x=>gm (gm (2 ^ i) x) c) (g:=fun x=>gm (2 ^ i) (gm x c)) (fun x y hx hy=>by show gm (gm _ (x ^^^ y)) c=_;rw[adn,aes _ _ c (al4 h2) (al4 h2)]) (fun x y hx hy=>by show gm _ (gm (x ^^^ y) c)=_;rw[aes x y c hx hy,adn]) (fun j hj=>?_) b hb;refine agD (f:=fun x=>gm (gm (2 ^ i) (2 ^ j)) x) (g:=fun x=>gm (2 ^ i) (gm (2 ^ j) x)) (fun x y _ _=>adn _ x y) (fun x y _ _=>by show gm _ (gm _ (x ^^^ y))=_;rw[adn,adn]) (fun k hk=>?_) c hc;exact Nat.eq_of_beq_eq_true (aaB (aaB (aaB akt i hi) j hj) k hk)
theorem aqv:allB 256 (fun x=>Nat.beq (gm x 1) x)=true:=by decide +kernel
theorem ajC {a:Nat}(ha:a<256):gm a 1=a:=Nat.eq_of_beq_eq_true (aaB aqv a ha)
theorem anI (a:Nat):gm a 0=0:=by have:=adn a 0 0;rwa [Nat.xor_self,Nat.xor_self] at this
def invN (a:Nat):Nat:=
 let a2:=gm a a;let a3:=gm a2 a;let a6:=gm a3 a3;let a12:=gm a6 a6;let a15:=gm a12 a3;let a30:=gm a15 a15;let a60:=gm a30 a30;let a63:=gm a60 a3
 let a126:=gm a63 a63;let a127:=gm a126 a;gm a127 a127
theorem anJ:allB 256 (fun x=>Nat.ble (invN x) 255 && (Nat.beq x 0 || (Nat.beq (gm x (invN x)) 1 && Nat.ble 1 (invN x))))=true:=by decide +kernel
theorem apP {a:Nat}(ha:a<256):invN a<256:=by
 have:=aaB anJ a ha;rw[Bool.and_eq_true] at this;have:=Nat.le_of_ble_eq_true this.1;omega
theorem aqw {a:Nat}(ha:a<256)(h0:a≠0):gm a (invN a)=1∧invN a≠0:=by
 have h:=aaB anJ a ha;rw[Bool.and_eq_true,Bool.or_eq_true,Bool.and_eq_true] at h;rcases h.2 with h1 | ⟨h1,h2⟩
 ·exact absurd (Nat.eq_of_beq_eq_true h1) h0
 ·exact ⟨Nat.eq_of_beq_eq_true h1,by have:=Nat.le_of_ble_eq_true h2;omega⟩
theorem ao7:invN 0=0:=by decide +kernel
theorem al6 {a b:Nat}(ha:a<256)(hb:b<256)(h:gm a b=1):b=invN a:=by
 have h0:a≠0:=by
  rintro rfl;rw[agE ha hb,anI] at h;omega
 have hi:=apP ha;calc b=gm b 1:=(ajC hb).symm
  _=gm b (gm a (invN a)):=by rw[(aqw ha h0).1]
  _=gm (gm b a) (invN a):=(aln hb ha hi).symm
  _=gm 1 (invN a):=by rw[agE hb ha,h]
  _=gm (invN a) 1:=agE (by omega) hi
  _=invN a:=ajC hi
def afl (x n:Nat):Nat:=(x*2 ^ n) % 256 ^^^ x / 2 ^ (8 - n)
def ahk (y:Nat):Nat:=y ^^^ afl y 1 ^^^ afl y 2 ^^^ afl y 3 ^^^ afl y 4 ^^^ 99
def boxN (x:Nat):Nat:=ahk (invN x)
theorem alo:allB 256 (fun x=>Nat.ble (ahk x) 255 && allB x (fun y=>!(Nat.beq (ahk x) (ahk y))))=true:=by decide +kernel
theorem aro {a:Nat}(ha:a<256):boxN a<256:=by
 have h:=aaB alo (invN a) (apP ha);rw[Bool.and_eq_true] at h;have:=Nat.le_of_ble_eq_true h.1;unfold boxN;omega
def mulB (a b:UInt8):UInt8:=UInt8.ofNat (gm a.toNat b.toNat)
def boxB (x:UInt8):UInt8:=UInt8.ofNat (boxN x.toNat)
theorem adH (a:UInt8):a.toNat<256:=a.toNat_lt
theorem acN (a b:UInt8):(mulB a b).toNat=gm a.toNat b.toNat:=by
 unfold mulB;rw[UInt8.toNat_ofNat',Nat.mod_eq_of_lt (al4 (adH a))]
theorem alp (a:UInt8):(boxB a).toNat=boxN a.toNat:=by
 unfold boxB;rw[UInt8.toNat_ofNat',Nat.mod_eq_of_lt (aro (adH a))]
theorem afC {a b:UInt8}(h:a.toNat=b.toNat):a=b:=UInt8.toNat_inj.1 h
theorem agF (a b:UInt8):mulB a b=mulB b a:=afC (by rw[acN,acN,agE (adH a) (adH b)])
theorem aiq (a b c:UInt8):mulB a (b ^^^ c)=mulB a b ^^^ mulB a c:=afC (by rw[acN,UInt8.toNat_xor,UInt8.toNat_xor,acN,acN,adn])
theorem anK (a b c:UInt8):mulB (a ^^^ b) c=mulB a c ^^^ mulB b c:=by rw[agF,aiq,agF c a,agF c b]
theorem alq (a:UInt8):mulB a 1=a:=afC (by rw[acN];exact ajC (adH a))
def mix4 (a b c d:UInt8):UInt8:=mulB a 2 ^^^ mulB b 3 ^^^ c ^^^ d
def tab (n:Nat)(f:Nat→UInt8):List UInt8:=(List.range n).map f
theorem aa7 (n:Nat)(f:Nat→UInt8):(tab n f).length=n:=by simp[tab]
theorem ado (n:Nat)(f:Nat→UInt8)(i:Nat)(h:i<n):(tab n f).getD i 0=f i:=by simp[tab,List.getD_eq_getElem?_getD,h]
theorem anL (n:Nat)(l:List UInt8)(h:l.length=n):tab n (fun i=>l.getD i 0)=l:=by
 apply List.ext_getElem
 ·rw[aa7,h]
 ·intro i h1 h2
  have:=ado n (fun i=>l.getD i 0) i (by rw[aa7] at h1;exact h1);rw[List.getD_eq_getElem?_getD,List.getElem?_eq_getElem h1] at this;simp only[Option.getD_some] at this;rw[this,List.getD_eq_getElem?_getD,List.getElem?_eq_getElem h2];rfl
theorem afm (n:Nat)(l m:List UInt8)(h1:l.length=n)(h2:m.length=n)(h:∀ i,i<n→l.getD i 0=m.getD i 0):l=m:=by
 rw[← anL n l h1,← anL n m h2];unfold tab;apply List.map_congr_left;intro i hi;exact h i (by simpa using hi)
def anM (m:Nat):Nat:=4*((m / 4+m % 4) % 4)+m % 4
def subS (s:List UInt8):List UInt8:=tab 16 fun m=>boxB (s.getD (anM m) 0)
def at4 (t:List UInt8)(m k:Nat):UInt8:=t.getD (4*(m / 4)+(m % 4+k) % 4) 0
def mixS (t:List UInt8):List UInt8:=tab 16 fun m=>mix4 (at4 t m 0) (at4 t m 1) (at4 t m 2) (at4 t m 3)
def addS (s w:List UInt8)(n:Nat):List UInt8:=tab 16 fun i=>s.getD i 0 ^^^ w.getD (16*n+i) 0
def anN (w s:List UInt8)(n:Nat):List UInt8:=addS (if n<10 then mixS (subS s) else subS s) w n
def acC (w b:List UInt8):Nat→List UInt8
 | 0=>addS b w 0
 | n+1=>anN w (acC w b n) (n+1)
def air (w b:List UInt8):List UInt8:=acC w b 10
theorem agG (s w:List UInt8)(n:Nat):(addS s w n).length=16:=aa7 _ _
theorem aeP (w b:List UInt8)(n:Nat):(acC w b n).length=16:=by
 cases n with
 | zero=>exact agG _ _ _
 | succ n=>exact agG _ _ _
theorem ajD (w b:List UInt8):(air w b).length=16:=aeP _ _ _
def rcon:Nat→UInt8
 | 0=>1
 | n+1=>mulB (rcon n) 2
def afn (w:List UInt8):UInt8:=
 let m:=w.length;let i:=m / 4;let k:=m % 4
 let x:=if i % 4=0 then boxB (w.getD (4*i - 4+(k+1) % 4) 0) else w.getD (4*i - 4+k) 0
 let x:=if i % 4=0∧k=0 then x ^^^ rcon (i / 4 - 1) else x
 w.getD (4*i - 16+k) 0 ^^^ x
def acm (key:List UInt8):Nat→List UInt8
 | 0=>key
 | n+1=>acm key n++[afn (acm key n)]
def adV (key:List UInt8):List UInt8:=acm key 160
theorem abs (key:List UInt8):∀ n,(acm key n).length=key.length+n
 | 0=>rfl
 | n+1=>by rw[acm,List.length_append,abs key n];rfl
def arL:Nat→Nat
 | 0=>1
 | i+1=>gm (arL i) 3
theorem ahu:∀ i,arL i<256
 | 0=>by decide
 | i+1=>al4 (ahu i)
theorem aod (i:Nat):∀ j,arL (i+j)=gm (arL i) (arL j)
 | 0=>by
  show arL i=gm (arL i) 1
  rw[ajC (ahu i)]
 | j+1=>by
  show gm (arL (i+j)) 3=gm (arL i) (gm (arL j) 3)
  rw[aod i j,aln (ahu i) (ahu j) (by omega)]
theorem apT:arL 255=1:=by decide +kernel
theorem arw {i:Nat}(h:i<255):invN (arL i)=arL ((255 - i) % 255):=by
 refine (al6 (ahu i) (ahu _) ?_).symm;by_cases h0:i=0
 ·subst h0
  show gm 1 (arL 0)=1
  exact ajC (by omega)
 ·rw[Nat.mod_eq_of_lt (by omega),← aod,show i+(255 - i)=255 by omega,apT]
def walk:Nat→Nat→Nat→Bool
 | 0,_,_=>false
 | n+1,c,x=>Nat.beq c x || walk n (gm c 3) x
theorem ajP (x:Nat):∀ n i,walk n (arL i) x=true→∃ j,j<i+n∧arL j=x
 | 0,i,h=>by cases h
 | n+1,i,h=>by
  rw[walk,Bool.or_eq_true] at h
  rcases h with h | h
  ·exact ⟨i,by omega,Nat.eq_of_beq_eq_true h⟩
  ·obtain ⟨j,h1,h2⟩:=ajP x n (i+1) h
   exact ⟨j,by omega,h2⟩
theorem apr:allB 256 (fun x=>Nat.beq x 0 || walk 255 1 x)=true:=by decide +kernel
theorem aqK {x:Nat}(h:x<256)(h0:x≠0):∃ i,i<255∧arL i=x:=by
 have:=aaB apr x h;rw[Bool.or_eq_true] at this;rcases this with h1 | h1
 ·exact absurd (Nat.eq_of_beq_eq_true h1) h0
 ·obtain ⟨j,h1,h2⟩:=ajP x 255 0 h1
  exact ⟨j,by omega,h2⟩
def p3B (i:Nat):UInt8:=UInt8.ofNat (arL i)
theorem agW (i:Nat):(p3B i).toNat=arL i:=by
 unfold p3B;rw[UInt8.toNat_ofNat'];have:=ahu i;omega
theorem aps (i:Nat):p3B (i+1)=mulB (p3B i) 3:=afC (by rw[acN,agW,agW];rfl)
def adI (x:UInt8):UInt8:=UInt8.ofNat (ahk x.toNat)
theorem aqL {x:Nat}(h:x<256):ahk x<256:=by
 have:=aaB alo x h;rw[Bool.and_eq_true] at this;have:=Nat.le_of_ble_eq_true this.1;omega
theorem agX (x:UInt8):(adI x).toNat=ahk x.toNat:=by
 unfold adI;rw[UInt8.toNat_ofNat'];have:=aqL (adH x);omega
theorem aoe {i:Nat}(h:i<255):adI (p3B ((255 - i) % 255))=boxB (p3B i):=afC (by rw[agX,alp,agW,agW,boxN,arw h])
theorem amt:adI 0=boxB 0:=afC (by rw[agX,alp];show ahk 0=ahk (invN 0);rw[ao7])
def agY (k:Nat)(l:List UInt8):Prop:=l.length=256∧l.getD 0 0=boxB 0∧∀ i,i<k→l.getD (arL i) 0=boxB (p3B i)
theorem p3_ne {i:Nat}(h:i<255):arL i≠0:=fun h0=>by
 have h1:gm (arL i) (arL (255 - i))=1:=by rw[← aod,show i+(255 - i)=255 by omega,apT]
 rw[h0,agE (by omega) (ahu _),anI] at h1;cases h1
theorem agY.begin:agY 0 ((List.replicate 256 (0:UInt8)).set 0 (adI 0)):=⟨by rw[List.length_set,List.length_replicate],by rw[← amt];rfl,fun i h=>by omega⟩
theorem agY.next {k:Nat}{l:List UInt8}(h:agY k l)(hk:k<255):agY (k+1) (l.set (arL k) (adI (p3B ((255 - k) % 255)))):=by
 obtain ⟨h1,h2,h3⟩:=h;have hp:=ahu k;have hn:=p3_ne hk;rw[aoe hk];have hget:∀ j,(l.set (arL k) (boxB (p3B k))).getD j 0=if j=arL k then boxB (p3B k) else l.getD j 0:=fun j=>by
  by_cases e:j=arL k
  ·subst e
   simp[List.getD_eq_getElem?_getD,h1,hp]
  ·rw[if_neg e]
   simp[List.getD_eq_getElem?_getD,List.getElem?_set,Ne.symm e]
 refine ⟨by simp[h1],by rw[hget,if_neg (Ne.symm hn),h2],fun i hi=>?_⟩;rw[hget];by_cases e:arL i=arL k
 ·rw[if_pos e]
  unfold p3B;rw[e]
 ·rw[if_neg e]
  by_cases hik:i=k
  ·subst hik;exact absurd rfl e
  ·exact h3 i (by omega)
def aei:List UInt8:=tab 256 fun i=>boxB (UInt8.ofNat i)
theorem adz:aei.length=256:=aa7 _ _
theorem ah8 (x:UInt8):aei.getD x.toNat 0=boxB x:=by
 have h:=ado 256 (fun i=>boxB (UInt8.ofNat i)) x.toNat (adH x);have e:UInt8.ofNat x.toNat=x:=afC (by rw[UInt8.toNat_ofNat'];have:=adH x;omega);exact h.trans (by simp only[e])
theorem agY.all {l:List UInt8}(h:agY 255 l):l=aei:=by
 obtain ⟨h1,h2,h3⟩:=h;refine afm 256 _ _ h1 adz fun i hi=>?_
 have hr:aei.getD i 0=boxB (UInt8.ofNat i):=ado 256 (fun i=>boxB (UInt8.ofNat i)) i hi;rw[hr];by_cases h0:i=0
 ·subst h0;exact h2
 ·obtain ⟨j,hj,rfl⟩:=aqK hi h0
  exact h3 j hj
end Go.Proofs.YthmhklmkgkfcpaaGreatDoor
