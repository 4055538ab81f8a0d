import Derived.Test.YthmhklmkgkfcpaaGreatDoorV1
import Derived.Laws.CopyOwn
import Derived.Deep.WholeRow
import Derived.RegionTactic
import Derived.BigRegion
import Derived.Deep.RegionWith
set_option linter.all false
set_option maxHeartbeats 8000000
set_option maxRecDepth 100000
namespace Go.Proofs.YthmhklmkgkfcpaaGreatDoor
open Go.Proofs.Tryz Go.RowKit
variable {A B w:World}{K l t:List UInt8}{P:Program}{Q:Exit->Act->World->Prop}{T c e:TypeId}{a:Act}{b:Array Oper}{g n:Nat}{o:Oper}
theorem oG {t:TypeId}(U:U8 P t e){k:Array Oper}{rest:List Oper}(r:o.guard=none)(d s:Operand)
  (A:o.op=.call { callee:=.builtin .copy,args:=#[d,s],argTypes:=#[t,t] })
  (T:TypeId) (g:Nat) (v:Value) (l m:List UInt8) (c n:Nat) (B:a.eval d=.slice (some ⟨g,0,none⟩) n c) (z:a.eval s=v) (u:By T w g m) (F:m.length=n) (E:Rd w v l) (H:l.length<=n)
  (h:∀ w',By T w' g (l++m.drop l.length)->But g w w'->wpList P k Q rest (a.put o.dst (.int .i64 (l.length:Int))) w'):wpList P k Q (o :: rest) a w:=by
 obtain⟨i,I,N,f,J⟩:=U.hi;have p:(P.info? e).map (·.size)=some 1:=by rw[I];simp[f]
 obtain⟨x,S,rfl,R,O,L,K⟩:=E;subst F;by_cases C:l=[]
 ·subst C
  refine wpList_copy_nothing r d s t t A e U.ht p _ _ _ _ _ _ B z (by simp) ?_;exact h w (by simpa using u) ⟨λh _=>h,λh _=>h,rfl,λ_ _=>rfl⟩
 ·cases x with
  | none=>
   have:=L rfl;have:l.length=0:=by omega
   exact absurd (IX this) C
  | some x=>
   refine wpList_copy_own r d s t t A e U.ht p g 0 _ _ x _ _ B z _ _ u (Lib.byteCells l) (by rw[cX];exact(LV H).symm) (λj aa y=>?_) (by simp[Lib.byteCells];omega) (λaa D=>?_) ?_
   ·have q:j<l.length:=by
     have:=(Jk.1 y).1;rwa [cX] at this
    rw[iz l j q] at y;cases y;exact K x rfl j q
   ·obtain⟨b,_,rfl⟩:=Ju.1 D
    rfl
   ·have M:(goInt (Lib.byteCells l).length)=.int .i64 (l.length:Int):=by rw[cX];rfl
    rw[M];refine h _ ?_ (But.setRow g w _);have G:=(Iz.1 u);unfold By;rw[setRow_heap w g _ _ T _ u];congr 2
    simp[Lib.byteCells,List.map_drop]
def bW (K:List UInt8)(n:Nat):List UInt8:=(K.drop (16*n)).take 16
theorem gC (h:16*n+16<=K.length):(bW K n).length=16:=by simp[bW];omega
theorem fA {j:Nat}(a:j<16):(bW K n).getD j 0=K.getD (16*n+j) 0:=by
 unfold bW;rw[Iw,Kz a,Kn,Iw]
structure qR (row:List UInt8)(r:UInt8)(N:List UInt8):Prop where
 len:N.length=16
 low:∀ j,j<4->N.getD j 0=row.getD j 0 ^^^ dg (row.getD (12+(j+1) % 4) 0) ^^^ (if j=0 then r else 0)
 high:∀ j,4<=j->j<16->N.getD j 0=row.getD j 0 ^^^ N.getD (j - 4) 0
theorem uK (key:List UInt8)(n:Nat):∀ d i,i<key.length+n->(eJ key (n+d)).getD i 0=(eJ key n).getD i 0
 | 0,i,_=>rfl
 | d+1,i,h=>by
  show(eJ key (n+d)++[kQ (eJ key (n+d))]).getD i 0=_
  rw[Iw,Jh (by rw[kR];omega),<-Iw,uK key n d i h]
theorem oO {key:List UInt8}(h:key.length=16):(eD key).length=176:=by rw[eD,kR,h]
theorem qS {key:List UInt8}(h:key.length=16)(k i:Nat)(a:k<=160)(b:i<16+k):(eD key).getD i 0=(eJ key k).getD i 0:=by
 have:=uK key k (160 - k) i (by omega);rwa [show k+(160 - k)=160 by omega] at this
theorem BU {key:List UInt8}(h:key.length=16)(k:Nat)(a:k<160):(eD key).getD (16+k) 0=kQ (eJ key k):=by
 rw[qS h (k+1) (16+k) (by omega) (by omega),eJ,Iw,Jd (by rw[kR];omega),kR,h,Lb];rfl
theorem BV {key:List UInt8}(h:key.length=16):bW (eD key) 0=key:=by
 refine kP 16 _ _ (gC (by rw[oO h];omega)) h λi a=>?_
 rw[fA a,qS h 0 _ (by omega) (by omega)];simp[eJ]
theorem BW {key:List UInt8}(h:key.length=16)(n:Nat)(m:n<10):qR (bW (eD key) n) (jK n) (bW (eD key) (n+1)):=by
 have e:∀ j,j<16->(eD key).getD (16*(n+1)+j) 0=kQ (eJ key (16*n+j)):=λj a=>by
  rw[<-BU h (16*n+j) (by omega)];congr 1
  omega
 have f:∀ j,j<16->(eJ key (16*n+j)).length=16*(n+1)+j:=λj a=>by rw[kR,h];omega
 have b:∀ j i,j<16->i<16*(n+1)+j->(eJ key (16*n+j)).getD i 0=(eD key).getD i 0:=λj i a o=>(qS h (16*n+j) i (by omega) (by omega)).symm
 refine⟨gC (by rw[oO h];omega),λj a=>?_,λj p a=>?_⟩
 ·rw[fA (by omega),fA (by omega),fA (by omega),e j (by omega)]
  unfold kQ;simp only[f j (by omega)];have l:(16*(n+1)+j) / 4=4*(n+1):=by omega
  have k:(16*(n+1)+j) % 4=j:=by omega
  have d:4*(n+1) % 4=0:=by omega
  rw[l,k];simp only[d,if_true,true_and];have g:4*(n+1) / 4 - 1=n:=by omega
  rw[g,b j _ (by omega) (by omega),b j _ (by omega) (by omega),show 4*(4*(n+1)) - 16+j=16*n+j by omega,show 4*(4*(n+1)) - 4+(j+1) % 4=16*n+(12+(j+1) % 4) by omega];by_cases c:j=0
  ·rw[if_pos c,if_pos c,Mn]
  ·rw[if_neg c,if_neg c,UInt8.xor_zero]
 ·rw[fA (by omega),fA (by omega),fA (by omega),e j (by omega)]
  unfold kQ;simp only[f j (by omega)];have d:¬(16*(n+1)+j) / 4 % 4=0:=by omega
  simp only[d,if_false,false_and];rw[b j _ (by omega) (by omega),b j _ (by omega) (by omega),show 4*((16*(n+1)+j) / 4) - 16+(16*(n+1)+j) % 4=16*n+j by omega,show 4*((16*(n+1)+j) / 4) - 4+(16*(n+1)+j) % 4=16*(n+1)+(j - 4) by omega]
theorem mv (A B:List UInt8)(i j:Nat)(h:A.length=B.length)(c:i<=A.length):(aP A B i).getD j 0=if j<i then B.getD j 0 else A.getD j 0:=by
 unfold aP;have b:(B.take i).length=i:=by simp;omega
 by_cases a:j<i
 ·rw[if_pos a,Iw,Jh (by omega),Kz a,Iw]
 ·rw[if_neg a,Iw,Jd (by omega),b,Kn,Iw,show i+(j - i)=j by omega]
def dN (row:List UInt8):List UInt8:=tab 16 λj=>row.getD j 0 ^^^ dg (row.getD (12+(j+1) % 4) 0)
theorem kS (row:List UInt8):(dN row).length=16:=gA _ _
theorem BX (row:List UInt8)(j:Nat)(h:j<16):(dN row)[j]?=some (row.getD j 0 ^^^ dg (row.getD (12+(j+1) % 4) 0)):=by simp[dN,tab,h]
theorem BY {row N:List UInt8}{r:UInt8}(a:row.length=16)(h:qR row r N):(aP row (dN row) 4).set 0 ((dN row).getD 0 0 ^^^ r)=aP row N 4:=by
 have e:(aP row (dN row) 4).length=16:=by rw[gx _ _ 4 (by rw[a,kS]) (by omega),a]
 have d:(aP row N 4).length=16:=by rw[gx _ _ 4 (by rw[a,h.len]) (by omega),a]
 refine kP 16 _ _ (by rw[IW,e]) d λi f=>?_
 rw[mv row N 4 i (by rw[a,h.len]) (by omega)];by_cases c:i=0
 ·subst c
  rw[Iw,List.getElem?_set_self (by omega),if_pos (by omega),h.low 0 (by omega),if_pos rfl];show(dN row).getD 0 0 ^^^ r=_
  unfold dN;rw[iM 16 _ 0 (by omega)]
 ·rw[Iw,List.getElem?_set_ne (by omega),<-Iw,mv row (dN row) 4 i (by rw[a,kS]) (by omega)]
  by_cases b:i<4
  ·rw[if_pos b,if_pos b,h.low i b,if_neg c,UInt8.xor_zero]
   unfold dN;rw[iM 16 _ i (by omega)]
  ·rw[if_neg b,if_neg b]
def ff (nonce:List UInt8)(q:Nat):List UInt8:=nonce++be 4 (q+1)
def gD (K nonce b:List UInt8)(j:Nat):UInt8:=b.getD j 0 ^^^ (iN K (ff nonce (j / 16))).getD (j % 16) 0
def cU (K nonce b:List UInt8):List UInt8:=tab b.length (gD K nonce b)
def mw (key nonce:List UInt8):Int:=if key.length=16/\nonce.length=12 then 0 else 1
def mz (key nonce b:List UInt8):List UInt8:=if key.length=16/\nonce.length=12 then cU (eD key) nonce b else []
theorem mA (K a b:List UInt8):(cU K a b).length=b.length:=gA _ _
theorem BZ (a:List UInt8)(q:Nat):(ff a q).length=a.length+4:=by simp[ff,bT]
theorem uL (K a b:List UInt8)(j:Nat)(h:j<b.length):(cU K a b).getD j 0=gD K a b j:=iM _ _ _ h
theorem Ca (K a b:List UInt8)(j:Nat)(h:j<b.length):(cU K a b)[j]?=some (gD K a b j):=by simp[cU,tab,h]
theorem Cb {t:TypeId}(U:U8 P t e){p:Array Oper}{rest:List Oper}(y:o.guard=none)(d s:Operand)
  (D:o.op=.call { callee:=.builtin .copy,args:=#[d,s],argTypes:=#[t,t] })
  (T:TypeId) (g f:Nat) (v:Value) (l m:List UInt8) (c n:Nat) (G:a.eval d=.slice (some ⟨g,f,none⟩) n c) (B:a.eval s=v) (z:By T w g m) (C:Rd w v l) (E:l.length<=n) (R:0<l.length) (M:f+l.length<=m.length)
  (h:∀ w',By T w' g (m.take f++(l++m.drop (f+l.length)))->But g w w'->wpList P p Q rest (a.put o.dst (.int .i64 (l.length:Int))) w'):wpList P p Q (o :: rest) a w:=by
 obtain⟨i,F,L,k,H⟩:=U.hi
 have r:(P.info? e).map (·.size)=some 1:=by rw[F];simp[k]
 obtain⟨x,S,rfl,O,N,J,I⟩:=C
 cases x with
 | none=>
  have:=J rfl
  omega
 | some x=>
  refine wpList_copy_own y d s t t D e U.ht r g f _ _ x _ _ G B _ _ z (Lib.byteCells l) (by rw[cX];exact(LV E).symm) (λj aa u=>?_) (by simp[Lib.byteCells];omega) (λaa A=>?_) ?_
  ·have q:j<l.length:=by
    have:=(Jk.1 u).1
    rwa [cX] at this
   rw[iz l j q] at u
   cases u
   exact I x rfl j q
  ·obtain⟨b,_,rfl⟩:=Ju.1 A
   rfl
  ·have K:(goInt (Lib.byteCells l).length)=.int .i64 (l.length:Int):=by rw[cX];rfl
   rw[K]
   refine h _ ?_ (But.setRow g w _)
   unfold By
   rw[setRow_heap w g _ _ T _ z]
   congr 2
   simp[Lib.byteCells,List.map_drop,List.map_take]
theorem Ex (i:Nat):p3B i ^^^ bF (p3B i) 2=p3B (i+1):=by
 rw[Ek,show(3:UInt8)=1 ^^^ 2 by decide,qP,uG]
def dV:List UInt8:=tab 255 p3B
theorem jS:dV.length=255:=gA _ _
theorem Ey (i:Nat)(h:i<255):dV[i]?=some (p3B i):=by simp[dV,tab,h]
def bt (l:List UInt8):Array Value:=(Lib.byteCells l).toArray
theorem iS (l:List UInt8):(bt l).size=l.length:=by simp[bt,cX]
theorem Ez (l:List UInt8)(i:Nat)(h:i<l.length):(bt l)[i]?=some (.int .u8 ((l.getD i 0).toNat:Int)):=by
 simp[bt,Lib.byteCells,h]
theorem By.new (T:TypeId)(w:World)(l:List UInt8):By T (w.alloc (.cells (bt l) T)) w.heap.size l:=heap_alloc_new w _
theorem EA:∀ w,(zeroValue 282).run prog w=.ok (.agg (bt (List.replicate 255 0))) w:=(zero_of_info (n:=255) (by kernel_rfl)).1
theorem EB:∀ w,(zeroValue 283).run prog w=.ok (.agg (bt (List.replicate 256 0))) w:=(zero_of_info (n:=256) (by kernel_rfl)).1
theorem EC:∃ a,prog.info? 5=some a/\a.size=1:=by
 have h:(prog.info? 5).map (·.size)=some 1:=by kernel_rfl
 cases hq:prog.info? 5 with
 | none=>rw[hq] at h;cases h
 | some a=>rw[hq] at h;exact⟨a,rfl,by simpa using h⟩
section
variable {P : Program}
theorem po (i:P.underlying c=some (.array n e))(m:(P.info? c).map (·.size)=some n){rest:List Oper}(d:o.guard=none)(x:Operand)(j:o.op=.load c x)
  (g:Nat) (l:List UInt8) (f:a.eval x=.pointer (some ⟨g,0,none⟩)) (h:By T w g l) (k:l.length=n)
  (p:wpList P b Q rest (a.put o.dst (.agg (bt l))) w):wpList P b Q (o :: rest) a w:=
 wpList_load_row d c x j g f T (bt l) (0,0) _ h i rfl (by rw[m,iS,k]) p
theorem ED (l:List UInt8):(bt l).all (·.oneCell')=true:=by
 rw[Kv];intro v a;simp only[bt,Lib.byteCells,List.mem_toArray,Ju] at a;obtain⟨x,_,rfl⟩:=a;rfl
theorem By.setRow (h:By T w g l)(m:List UInt8):By T (w.setRow g (bt m)) g m:=by
 unfold By at h ⊢;obtain⟨a,b⟩:=Iz.1 h;simp[World.setRow,a,La,b,bt]
theorem rH (p:(P.info? c).map (·.size)=some n){rest:List Oper}(d:o.guard=none)(q:o.dst=none)(x y:Operand)(j:o.op=.store c x y)
  (g:Nat) (l m:List UInt8) (i:a.eval x=.pointer (some ⟨g,0,none⟩)) (f:a.eval y=.agg (bt m)) (h:By T w g l) (k:l.length=n) (e:m.length=n)
  (r:∀ W,By T W g m->But g w W->wpList P b Q rest a W):wpList P b Q (o :: rest) a w:=
 wpList_store_row d c x y j g (bt m) i f T (bt l) h (by rw[p,iS,e]) (by rw[iS,iS,k,e]) (ED m) (by rw[q];exact r _ (h.setRow m) (But.setRow g w _))
end
theorem EE (w:World):Calls prog 238 #[] w λe w'=>(∃ g,e=.returned (.pointer (some ⟨g,0,none⟩))/\By 283 w' g ix/\w.heap.size<=g)/\Kp w w':=by
 have z1:=EA;have z2:=EB;have P0:By 282 (w.alloc (.cells (bt (List.replicate 255 0)) 282)) w.heap.size (aP (List.replicate 255 0) dV 0):=by
  rw[show aP (List.replicate 255 (0:UInt8)) dV 0=List.replicate 255 0 by simp[aP]];exact By.new _ w _
 have HN:Hid (∀ i,i<255->(aP (List.replicate 255 0) dV i).set i (p3B i)=aP (List.replicate 255 0) dV (i+1)):=λi r=>
  iH _ _ i (by rw[jS,JD]) (by rw[JD];exact r) _ (Ey i r)
 have HL:Hid (∀ i,i<=255->(aP (List.replicate 255 0) dV i).length=255):=λi r=>by
  rw[gx _ _ i (by rw[jS,JD]) (by rw[JD];exact r),JD]
 have HA:Hid (aP (List.replicate 255 0) dV 255=dV):=jE _ _ (by rw[jS,JD]);obtain⟨Z,B⟩:∃ Z,bt (List.replicate 255 (0:UInt8))=Z:=⟨_,rfl⟩;obtain⟨Y,s⟩:∃ Y,bt (List.replicate 256 (0:UInt8))=Y:=⟨_,rfl⟩;have ae:Z.size=255:=by rw[<-B,iS];rfl
 have af:Y.size=256:=by rw[<-s,iS];rfl
 rw[B] at z1 P0;rw[s] at z2;generalize hM:aP (List.replicate 255 0) dV=M at *;have HY:=Lib.hid s;clear B hM s;go_enter func238,ntmps238;go_wp2_with fail;go_loopw[2,7] (λx p wr=>∃ i:Nat,i<=255/\p=.int .i64 i/\x=.int .u8 ((p3B i).toNat:Int)/\By 282 wr w.heap.size (M i)/\Kp w wr/\w.heap.size<wr.heap.size) (λ_ p _=>255 - (intOf p).toNat)
 case atStart=>exact⟨0,by omega,rfl,rfl,P0,(Kp.refl _).alloc _,by simp⟩
 case round=>
  clear P0;obtain⟨i,r,rfl,rfl,d,G,hs⟩:=hrel;by_cases b:i<255
  ·have hq:(i:Int)<255:=by omega
   have hn:=HN.out i b;have hc:=d.cell i (by rw[HL.out i r];exact b);have hf:=d.frozen i;have hd:=lj (p3B i) (wr.setCell ⟨w.heap.size,i,none⟩ (.int .u8 ((p3B i).toNat:Int)));have hx:=da (p3B i) (bF (p3B i) 2);rw[Ex] at hx;have o:=d.set i (p3B i) hn;have P:=Below.setCell G (p:=⟨w.heap.size,i,none⟩) (by simp) (.int .u8 ((p3B i).toNat:Int));have K:w.heap.size<(wr.setCell ⟨w.heap.size,i,none⟩ (.int .u8 ((p3B i).toNat:Int))).heap.size:=by simpa using hs
   obtain⟨V,T⟩:∃ V,p3B (i+1)=V:=⟨_,rfl⟩;rw[T] at hx;have HV:=Lib.hid T;clear T;generalize bF (p3B i) 2=D at *;generalize p3B i=U at *;generalize E:wr.setCell ⟨w.heap.size,i,none⟩ (.int .u8 (U.toNat:Int))=W at *;have HW:=Lib.hid E;clear hn E;go_wp2_with(go_at_call 240;rw[HW.out];refine hd.mono ?_;rintro _ _ ⟨rfl,rfl⟩)
   go_roundw
   case rel=>exact⟨i+1,by omega,by go_num,by rw[HV.out],o,P,K⟩
   case measure=>simp[intOf];omega
  ·obtain rfl:i=255:=by omega
   rw[HA.out] at d;obtain⟨a,A⟩:∃ a,wr.heap.size=a:=⟨_,rfl⟩;have F:By 283 (wr.alloc (.cells Y 283)) a (List.replicate 256 0):=by
    rw[<-HY.out,<-A];exact By.new _ wr _
   have P1:=d.kp ((Kp.refl wr).alloc (.cells Y 283));have k1:Kp w (wr.alloc (.cells Y 283)):=G.alloc _;have L:a<(wr.alloc (.cells Y 283)).heap.size:=F.lt;have c0:=F.cell 0 (by decide);have f0:=F.frozen 0;have B1:=F.set 0 (em 0) rfl;have u:=wo 0 (wr.alloc (.cells Y 283));have I:=Below.setCell k1 (p:=⟨a,0,none⟩) (by show w.heap.size<=a;omega) (.int .u8 ((em 0).toNat:Int));have H:By 282 ((wr.alloc (.cells Y 283)).setCell ⟨a,0,none⟩ (.int .u8 ((em 0).toNat:Int))) w.heap.size dV:=
    (Below.heap_setCell _ ⟨a,0,none⟩ _ w.heap.size (by show w.heap.size≠a;omega)).trans P1
   have HF:=Lib.hid (λk l h=>gG.next (k:=k) (l:=l) h);have H0:Hid (gG 0 ((List.replicate 256 (0:UInt8)).set 0 (em 0))):=gG.begin;generalize (List.replicate 256 (0:UInt8)).set 0 (em 0)=L0 at *;generalize E:wr.alloc (.cells Y 283)=W1 at *;have HW:=Lib.hid E;have N:w.heap.size≠a:=by omega
   have y:w.heap.size<=a:=by omega
   obtain⟨W2,C⟩:∃ W2,W1.setCell ⟨a,0,none⟩ (.int .u8 ((em 0).toNat:Int))=W2:=⟨_,rfl⟩;rw[C] at B1 I H;go_wp2_with fail;refine u.mono ?_;rintro _ _ ⟨rfl,rfl⟩;clear z1 z2;go_wp2_with(refine po underlying282 (by kernel_rfl) rfl (.tmp 1) rfl w.heap.size dV rfl H jS ?_)
   clear E HW P1 k1 L c0 f0 A F u C HN HL HA HY d G hs;go_loopw[21] (λp f=>∃ (k:Nat) (l:List UInt8),k<=255/\p=.int .i64 k/\Hid (gG k l)/\By 283 f a l/\By 282 f w.heap.size dV/\Kp w f) (λp _=>255 - (intOf p).toNat)
   case atStart=>exact⟨0,L0,by omega,rfl,H0,B1,H,I⟩
   case round=>
    clear B1 H I;obtain⟨f,rfl⟩:∃ f,f=wr:=⟨_,rfl⟩;obtain⟨k,l,G,rfl,q,t,d,j⟩:=hrel;by_cases b:k<255
    ·have v:=Lib.hid (HF.out k l q.out b)
     have O:l.length=256:=q.out.1;obtain⟨m,hm⟩:∃ m,(255 - k) % 255=m:=⟨_,rfl⟩;have c:m<255:=by omega
     have c2:=d.cell m (by rw[jS];exact c);rw[show dV.getD m 0=p3B m from iM 255 p3B m c] at c2;have S:=mY k;have n:=iw k;have ht:=wo (p3B m) f;rw[hm,<-S] at v;rw[<-S] at n;have c3:=t.cell (p3B k).toNat (by rw[O];exact n);have f3:=t.frozen (p3B k).toNat;have i1:IntKind.i64.wrap (255 - (k:Int))=255 - (k:Int):=IA _ (by omega);have i2:(255 - (k:Int)).tmod 255=(m:Int):=by rw[Ji (by omega)];omega
     have i3:(255 - (k:Int)) % 255=(m:Int):=by omega
     have i4:(m:Int)<255:=by omega
     have i5:(k:Int)<255:=by omega
     have i6:((p3B k).toNat:Int)<256:=by omega
     have i8:0<=(m:Int):=by omega
     have ad:∀ W,(Instr.index 282 (.agg (bt dV)) (.int .i64 k)).run prog W=.ok (.int .u8 ((p3B k).toNat:Int)) W:=λW=>by
      obtain⟨ie,Q,J⟩:=EC;have hg:=Ez dV k (by rw[jS];exact b);rw[show dV.getD k 0=p3B k from iM 255 p3B k b] at hg;exact qt W 282 5 255 ie _ underlying282 Q J underlying5 rfl _ (by rw[iS,jS]) k b _ hg
     have ab:=t.set (p3B k).toNat (em (p3B m)) rfl;have o:By 282 (f.setCell ⟨a,(p3B k).toNat,none⟩ (.int .u8 ((em (p3B m)).toNat:Int))) w.heap.size dV:=(Below.heap_setCell f ⟨a,_,none⟩ _ w.heap.size N).trans d;have z:=Below.setCell j (p:=⟨a,(p3B k).toNat,none⟩) y (.int .u8 ((em (p3B m)).toNat:Int));clear hm S n;generalize B:em (p3B m)=Z at *;generalize s:p3B m=Y at *;generalize R:p3B k=X at *;generalize aa:l.set X.toNat Z=l2 at *;clear B s R aa d t j;go_wp2_with(go_at_call 263;refine ht.mono ?_;rintro _ _ ⟨rfl,rfl⟩)
     go_roundw
     case rel=>exact⟨k+1,l2,by omega,by go_num,v,ab,o,z⟩
     case measure=>simp[intOf];omega
    ·obtain rfl:k=255:=by omega
     have hl:=q.out.all;rw[hl] at t;go_wp2_with fail;go_ret;exact⟨⟨_,rfl,t,y⟩,j⟩
structure wu (p:Prop):Prop where
 out:p
theorem later {G p:Prop}(ways:wu G->p)(rest:wu G):p:=ways rest
structure Wr (g:Nat)(A B:World):Prop where
 os:B.os=A.os
 tape:B.tape=A.tape
 output:B.output=A.output
 size:A.heap.size<=B.heap.size
 block:∀ k,k<A.heap.size->k≠g->B.heap[k]?=A.heap[k]?
theorem Wr.refl (g:Nat)(A:World):Wr g A A:=⟨rfl,rfl,rfl,IB _,λ_ _ _=>rfl⟩
theorem Wr.trans {C:World}(h:Wr g A B)(k:Wr g B C):Wr g A C:=
 ⟨k.os.trans h.os,k.tape.trans h.tape,k.output.trans h.output,IU h.size k.size,λi b a=>(k.block i (II b h.size) a).trans (h.block i b a)⟩
theorem Wr.of_kp (h:Kp A B):Wr g A B:=⟨h.os,h.tape,h.output,h.size,λk a _=>h.block k a⟩
theorem Wr.setCell (h:Wr g A B)(i:Nat)(v:Value):Wr g A (B.setCell ⟨g,i,none⟩ v):=
 ⟨h.os,h.tape,h.output,by simpa using h.size,λk b a=>(Below.heap_setCell B ⟨g,i,none⟩ v k a).trans (h.block k b a)⟩
theorem Wr.drew (h:Wr g A B):Wr g A B.drew:=h.trans (Wr.of_kp (Kp.refl B).drew)
theorem Wr.below (h:Wr g A B)(a:n<=A.heap.size)(c:n<=g):Below n A B:=
 ⟨h.os,h.tape,h.output,h.size,λk b=>h.block k (by omega) (by omega)⟩
theorem Wr.cell (h:Wr g A B){p:Addr}{v:Value}(a:A.cell? p=some v)(b:p.block≠g):B.cell? p=some v:=
 (KX (w:=A) (h.block p.block (Jb A p a) b)).trans a
theorem Wr.by {k:Nat}(h:Wr g A B)(a:By T A k l)(b:k≠g):By T B k l:=(h.block k a.lt b).trans a
theorem By.drew (h:By T w g l):By T w.drew g l:=h
theorem By.made (T:TypeId)(w:World)(cs:Array Value)(l:List UInt8)(h:cs=bt l):By T (w.alloc (.cells cs T)) w.heap.size l:=by
 subst h;exact By.new T w l
def dj (w:World)(b o:Nat)(l:List UInt8):Prop:=∀ i,i<l.length->w.cell? ⟨b,o+i,none⟩=some (.int .u8 ((l.getD i 0).toNat:Int))
theorem dj.wr {b o:Nat}(h:dj A b o l)(k:Wr g A B)(c:b≠g):dj B b o l:=λi a=>k.cell (h i a) c
theorem dj.kp {b o:Nat}(h:dj A b o l)(k:Kp A B):dj B b o l:=λi a=>k.cell (h i a)
theorem pq (A B:List UInt8)(i j:Nat)(h:A.length=B.length)(c:i<=A.length)(b:i<=j):(aP A B i).getD j 0=A.getD j 0:=by
 unfold aP;have a:(B.take i).length=i:=by simp;omega
 rw[Iw,Jd (by omega),a,Kn,Iw,show i+(j - i)=j by omega]
def fk (s r:List UInt8):List UInt8:=tab 16 λi=>s.getD i 0 ^^^ r.getD i 0
theorem pr (s r:List UInt8):(fk s r).length=16:=gA _ _
theorem ww (n:Nat)(f:Nat->UInt8)(i:Nat)(h:i<n):(tab n f)[i]?=some (f i):=by simp[tab,h]
theorem rI (b k o:Nat)(s r:List UInt8)(w:World)(d:s.length=16)(A:r.length=16)(j:k≠b)(a:By 231 w b s)(m:dj w k o r):
  Calls prog 241 #[.pointer (some ⟨b,0,none⟩),.pointer (some ⟨k,o,none⟩)] w λe w'=>e=.returned (.tuple #[])/\By 231 w' b (fk s r)/\Wr b w w':=by
 have u:Hid (∀ i,i<16->(aP s (fk s r) i).set i (s.getD i 0 ^^^ r.getD i 0)=aP s (fk s r) (i+1)):=λi f=>
  iH _ _ i (by rw[pr,d]) (by rw[d];exact f) _ (ww 16 _ i f)
 have x:Hid (∀ i,i<16->(aP s (fk s r) i).getD i 0=s.getD i 0):=λi f=>pq _ _ i i (by rw[pr,d]) (by omega) (IB _)
 have v:Hid (∀ i,i<=16->(aP s (fk s r) i).length=16):=λi f=>by rw[gx _ _ i (by rw[pr,d]) (by omega),d]
 have y:Hid (aP s (fk s r) 16=fk s r):=jE _ _ (by rw[pr,d]);have g:By 231 w b (aP s (fk s r) 0):=by rw[show aP s (fk s r) 0=s by simp[aP]];exact a
 generalize n:aP s (fk s r)=M at *;generalize fk s r=X at *;clear n a;go_enter func241,ntmps241;go_wp2_with fail;go_loopw[5] (λp wr=>∃ i:Nat,i<=16/\p=.int .i64 i/\By 231 wr b (M i)/\Wr b w wr) (λp _=>16 - (intOf p).toNat)
 case atStart=>exact⟨0,by omega,rfl,g,Wr.refl _ _⟩
 case round=>
  clear g;obtain⟨i,f,rfl,a,h⟩:=hrel;by_cases c:i<16
  ·have B:(i:Int)<16:=by omega
   have q:=a.cell i (by rw[v.out i f];exact c);have C:=a.frozen i;rw[x.out i c] at q;have D:=(m.wr h j) i (by omega);have z:=da (s.getD i 0) (r.getD i 0);have l:=u.out i c;generalize s.getD i 0=U at *;generalize r.getD i 0=V at *;generalize U ^^^ V=Z at *;have t:=Lib.hid l;clear l;go_wp2_with fail;go_region
   all_goals
    go_wp2_with fail;go_roundw
    case rel=>exact⟨i+1,by omega,by go_num,(a.set i _ t.out).drew,(h.setCell i _).drew⟩
    case measure=>simp[intOf];omega
  ·obtain rfl:i=16:=by omega
   rw[y.out] at a;go_wp2_with fail;go_end0
   exact⟨rfl,a,h⟩
theorem EF:∀ i,i<16->(5*i) % 16=mu i:=by
 have:∀ i:Fin 16,(5*i.1) % 16=mu i.1:=by decide
 exact λi a=>this ⟨i,a⟩
theorem mZ (s:List UInt8):(eC s).length=16:=gA _ _
theorem EG (gc b v:Nat)(s:List UInt8)(w:World)(d:s.length=16)(q:gc≠b)(r:v≠b)(A:w.cell? ⟨gc,0,none⟩=some (.pointer (some ⟨v,0,none⟩)))(z:By 283 w v ix)(a:By 231 w b s):
  Calls prog 242 #[.pointer (some ⟨gc,0,none⟩),.pointer (some ⟨b,0,none⟩)] w λe w'=>e=.returned (.tuple #[])/\By 231 w' b (eC s)/\Wr b w w':=by
 have K:Hid (∀ i,i<16->(aP s (eC s) i).set i (dg (s.getD (mu i) 0))=aP s (eC s) (i+1)):=λi j=>
  iH _ _ i (by rw[mZ,d]) (by rw[d];exact j) _ (ww 16 _ i j)
 have L:Hid (∀ i,i<=16->(aP s (eC s) i).length=16):=λi j=>by rw[gx _ _ i (by rw[mZ,d]) (by omega),d]
 have N:Hid (aP s (eC s) 16=eC s):=jE _ _ (by rw[mZ,d]);have C:aP s (eC s) 0=s:=by simp[aP]
 generalize I:aP s (eC s)=M at *;generalize eC s=X at *;have O:=Lib.hid C;clear I C;go_enter func242,ntmps242;go_wp2_with(first
  | (refine po underlying231 (by kernel_rfl) rfl (.tmp 7) rfl b s rfl a d ?_)
  | (refine rH (by kernel_rfl) rfl rfl (.tmp 4) (.tmp 8) rfl w.heap.size (List.replicate 16 0) s rfl rfl (By.made _ _ _ _ rfl) (by decide) d ?_;intro x H c))
 have k:Kp w x:=c.below ((Kp.refl w).alloc _) (IB _);have G:b<w.heap.size:=a.lt;have g:=a.kp k;have u:=k.cell A;have t:=z.kp k;rw[<-O.out] at g;clear c a A z;have l:w.heap.size≠b:=by omega
 go_loopw[9] (λp wr=>∃ i:Nat,i<=16/\p=.int .i64 i/\By 231 wr b (M i)/\Wr b x wr) (λp _=>16 - (intOf p).toNat)
 case atStart=>exact⟨0,by omega,rfl,g,Wr.refl _ _⟩
 case round=>
  clear g;obtain⟨i,j,rfl,a,h⟩:=hrel;by_cases f:i<16
  ·have V:(i:Int)<16:=by omega
   have W:=a.cell i (by rw[L.out i j];exact f);have Y:=a.frozen i;have c1:=h.cell u q;obtain⟨m,o⟩:∃ m,mu i=m:=⟨_,rfl⟩
   have B:=EF i f;rw[o] at B;have y:m<16:=by omega
   have c2:=(h.by H l).cell m (by omega);have n:=K.out i f;rw[o] at n;have J:=(h.by t r).cell (s.getD m 0).toNat (by rw[rG];exact ej _);rw[wj] at J;have E:=ej (s.getD m 0);have F:((s.getD m 0).toNat:Int)<256:=by omega
   generalize s.getD m 0=U at *;generalize dg U=Z at *;have D:=Lib.hid n;have T:IntKind.i64.wrap (5*(i:Int))=5*(i:Int):=IA _ (by omega);have S:(5*(i:Int)).tmod 16=(m:Int):=by rw[Ji (by omega)];omega
   have R:(5*(i:Int)) % 16=(m:Int):=by omega
   have Q:(m:Int)<16:=by omega
   have P:0<=(m:Int):=by omega
   clear n o B;go_wp2_with fail;go_region
   all_goals
    go_wp2_with fail;go_roundw
    case rel=>exact⟨i+1,by omega,by go_num,by first|exact a.set i _ D.out|exact(a.set i _ D.out).drew,by first|exact h.setCell i _|exact(h.setCell i _).drew⟩
    case measure=>simp[intOf];omega
  ·obtain rfl:i=16:=by omega
   rw[N.out] at a;go_wp2_with fail;go_end0
   exact⟨rfl,a,(Wr.of_kp k).trans h⟩
theorem pt (a b c d:UInt8):eU a b c d=a ^^^ (a ^^^ b ^^^ c ^^^ d ^^^ bF (a ^^^ b) 2):=by
 unfold eU;rw[show(3:UInt8)=1 ^^^ 2 by decide,qP,uG,BS];have:∀ x y z aa v w:UInt8,x ^^^ (y ^^^ z) ^^^ aa ^^^ v=w ^^^ (w ^^^ y ^^^ aa ^^^ v ^^^ (x ^^^ z)):=by
  intro x y z aa v w;have e:w ^^^ (w ^^^ y ^^^ aa ^^^ v ^^^ (x ^^^ z))=(w ^^^ w) ^^^ (x ^^^ (y ^^^ z) ^^^ aa ^^^ v):=by ac_rfl
  rw[e,Ma,UInt8.zero_xor]
 exact this _ _ _ _ _ _
theorem EH (a b c d:UInt8):eU b c d a=b ^^^ (a ^^^ b ^^^ c ^^^ d ^^^ bF (b ^^^ c) 2)/\eU c d a b=c ^^^ (a ^^^ b ^^^ c ^^^ d ^^^ bF (c ^^^ d) 2)/\eU d a b c=d ^^^ (a ^^^ b ^^^ c ^^^ d ^^^ bF (d ^^^ a) 2):=by
 rw[pt,pt,pt,show b ^^^ c ^^^ d ^^^ a=a ^^^ b ^^^ c ^^^ d by ac_rfl,show c ^^^ d ^^^ a ^^^ b=a ^^^ b ^^^ c ^^^ d by ac_rfl,show d ^^^ a ^^^ b ^^^ c=a ^^^ b ^^^ c ^^^ d by ac_rfl];exact⟨rfl,rfl,rfl⟩
theorem py (l:List UInt8)(i j:Nat)(x:UInt8)(a:i<l.length):(l.set i x).getD j 0=if j=i then x else l.getD j 0:=by
 by_cases e:j=i
 ·subst e
  simp[Iw,a]
 ·rw[if_neg e]
  simp[Iw,Kh,Mt e]
def gH (t:List UInt8)(i:Nat)(l:List UInt8):Prop:=l.length=16/\∀ m,m<16->l.getD m 0=if m<i then (ii t).getD m 0 else t.getD m 0
theorem gH.begin (h:t.length=16):gH t 0 t:=⟨h,λm _=>by rw[if_neg (by omega)]⟩
theorem pz (t:List UInt8)(n k:Nat)(b:n<4)(a:k<4):(ii t).getD (4*n+k) 0=eU (t.getD (4*n+k) 0) (t.getD (4*n+(k+1) % 4) 0) (t.getD (4*n+(k+2) % 4) 0) (t.getD (4*n+(k+3) % 4) 0):=by
 unfold ii;rw[iM 16 _ (4*n+k) (by omega)];unfold at4;rw[show(4*n+k) / 4=n by omega,show(4*n+k) % 4=k by omega,Lp,JO a]
theorem gH.next (h:gH t (4*n) l)(g:n<4)(a b c d:UInt8)(y:t.getD (4*n) 0=a)(x:t.getD (4*n+1) 0=b)(w:t.getD (4*n+2) 0=c)(v:t.getD (4*n+3) 0=d):
  gH t (4*(n+1)) ((((l.set (4*n) (eU a b c d)).set (4*n+1) (eU b c d a)).set (4*n+2) (eU c d a b)).set (4*n+3) (eU d a b c)):=by
 obtain⟨f,z⟩:=h;refine⟨by simp[f],λm u=>?_⟩;have o:=pz t n 0 g (by omega);have k:=pz t n 1 g (by omega);have j:=pz t n 2 g (by omega);have i:=pz t n 3 g (by omega);simp only[Lp,JA,Nat.reduceAdd,Nat.reduceMod,y,x,w,v] at o k j i;rw[py _ _ _ _ (by simp[f];omega),py _ _ _ _ (by simp[f];omega),py _ _ _ _ (by simp[f];omega),py _ _ _ _ (by rw[f];omega),z m u];by_cases p:m=4*n+3
 ·subst p;rw[if_pos rfl,if_pos (by omega),i]
 ·rw[if_neg p]
  by_cases q:m=4*n+2
  ·subst q;rw[if_pos rfl,if_pos (by omega),j]
  ·rw[if_neg q]
   by_cases r:m=4*n+1
   ·subst r;rw[if_pos rfl,if_pos (by omega),k]
   ·rw[if_neg r]
    by_cases s:m=4*n
    ·subst s;rw[if_pos rfl,if_pos (by omega),o]
    ·rw[if_neg s]
     by_cases e:m<4*n
     ·rw[if_pos e,if_pos (by omega)]
     ·rw[if_neg e,if_neg (by omega)]
theorem gH.all (h:gH t (4*4) l):l=ii t:=
 kP 16 _ _ h.1 (gA _ _) λi a=>by rw[h.2 i a,if_pos (by omega)]
theorem EI (t:List UInt8):(ii t).length=16:=gA _ _
theorem EK {a:TypeId}(c:P.underlying a=some (.array n e))(j:(P.info? a).map (·.size)=some n){b:Func}{p:Tmp}(d:b.results=#[.cell p a])(tmps:Array Value)(w:World)(g:Nat)(l:List UInt8)
  (f:tmps.getD p undef=.pointer (some ⟨g,0,none⟩)) (h:By T w g l) (i:l.length=n):(results b tmps).run P w=.ok (.agg (bt l)) w:=
 results_cell_row d tmps w g T (bt l) (0,0) _ f h c rfl (by rw[j,iS,i])
theorem EM (gc F:Nat)(row N:List UInt8)(r:UInt8)(w:World)(c:row.length=16)(f:qR row r N)(C:w.cell? ⟨gc,0,none⟩=some (.pointer (some ⟨F,0,none⟩)))(A:By 283 w F ix):
  Calls prog 239 #[.pointer (some ⟨gc,0,none⟩),.agg (bt row),.int .u8 (r.toNat:Int)] w λe w'=>e=.returned (.agg (bt N))/\Kp w w':=by
 have h:=Lib.hid (BY c f);have H1:Hid (∀ i,i<4->(aP row (dN row) i).set i (row.getD i 0 ^^^ dg (row.getD (12+(i+1) % 4) 0))=aP row (dN row) (i+1)):=λi a=>iH _ _ i (by rw[c,kS]) (by omega) _ (BX row i (by omega))
 have J:Hid (∀ i j,i<=4->i<=j->(aP row (dN row) i).getD j 0=row.getD j 0):=λi j a hj=>pq _ _ i j (by rw[c,kS]) (by omega) hj
 have v:Hid (∀ i,i<=4->(aP row (dN row) i).length=16):=λi a=>by rw[gx _ _ i (by rw[c,kS]) (by omega),c]
 have T:Hid ((aP row (dN row) 4).getD 0 0=(dN row).getD 0 0):=by
  refine(mv _ _ 4 0 (by rw[c,kS]) (by omega)).trans ?_;rw[if_pos (by omega)]
 have P:aP row (dN row) 0=row:=by simp[aP]
 have H2:Hid (∀ i,i<12->(aP row N (i+4)).set (i+4) (row.getD (i+4) 0 ^^^ N.getD i 0)=aP row N (i+1+4)):=λi a=>by
  have O:=f.high (i+4) (by omega) (by omega);rw[Km] at O;rw[show i+1+4=i+4+1 by omega];refine iH _ _ (i+4) (by rw[c,f.len]) (by omega) _ ?_;rw[<-O,Iw,Iy (by rw[f.len];omega)];rfl
 have G2:Hid (∀ i,i<12->(aP row N (i+4)).getD (i+4) 0=row.getD (i+4) 0/\(aP row N (i+4)).getD i 0=N.getD i 0):=λi a=>by
  rw[mv _ _ (i+4) _ (by rw[c,f.len]) (by omega),mv _ _ (i+4) _ (by rw[c,f.len]) (by omega),if_neg (by omega),if_pos (by omega)];exact⟨rfl,rfl⟩
 have X:Hid (∀ i,i<=12->(aP row N (i+4)).length=16):=λi a=>by rw[gx _ _ (i+4) (by rw[c,f.len]) (by omega),c]
 have A2:Hid (aP row N (12+4)=N):=by
  have:=jE row N (by rw[c,f.len]);rw[f.len] at this;exact this
 have B0:By 231 (w.alloc (.cells (bt row) 231)) w.heap.size (aP row (dN row) 0):=by
  rw[P];exact By.new _ w row
 generalize dN row=M at *;have H:=f.len;clear f P;go_enter func239,ntmps239;go_wp2_with fail;have x:=B0.kp ((Kp.refl _).alloc (.cells (bt (List.replicate 16 0)) 231));have u:=By.new 231 (w.alloc (.cells (bt row) 231)) (List.replicate 16 0);rw[IQ] at u;have k:Kp w ((w.alloc (.cells (bt row) 231)).alloc (.cells (bt (List.replicate 16 0)) 231)):=((Kp.refl w).alloc _).alloc _;have t:bt (List.replicate 16 0)=#[Value.int IntKind.u8 0,Value.int IntKind.u8 0,Value.int IntKind.u8 0,Value.int IntKind.u8 0,Value.int IntKind.u8 0,Value.int IntKind.u8 0,Value.int IntKind.u8 0,Value.int IntKind.u8 0,Value.int IntKind.u8 0,Value.int IntKind.u8 0,Value.int IntKind.u8 0,Value.int IntKind.u8 0,Value.int IntKind.u8 0,Value.int IntKind.u8 0,Value.int IntKind.u8 0,Value.int IntKind.u8 0]:=rfl;rw[t] at x u k;obtain⟨G,q⟩:∃ W,(w.alloc (.cells (bt row) 231)).alloc (.cells #[Value.int IntKind.u8 0,Value.int IntKind.u8 0,Value.int IntKind.u8 0,Value.int IntKind.u8 0,Value.int IntKind.u8 0,Value.int IntKind.u8 0,Value.int IntKind.u8 0,Value.int IntKind.u8 0,Value.int IntKind.u8 0,Value.int IntKind.u8 0,Value.int IntKind.u8 0,Value.int IntKind.u8 0,Value.int IntKind.u8 0,Value.int IntKind.u8 0,Value.int IntKind.u8 0,Value.int IntKind.u8 0] 231)=W:=⟨_,rfl⟩;rw[q] at x u k ⊢;have C1:=k.cell C;have X1:=A.kp k;have ag:F<w.heap.size:=A.lt;have af:gc<w.heap.size:=Jb w _ C;clear q t B0 C A;go_loopw[11] (λp wr=>∃ i:Nat,i<=4/\p=.int .i64 i/\By 231 wr w.heap.size (aP row M i)/\Wr w.heap.size G wr) (λp _=>4 - (intOf p).toNat)
 case atStart=>exact⟨0,by omega,rfl,x,Wr.refl _ _⟩
 case round=>
  clear x;obtain⟨i,a,rfl,b,g⟩:=hrel;by_cases d:i<4
  ·have hq:(i:Int)<4:=by omega
   have K:(i:Int)<16:=by omega
   obtain⟨m,L⟩:∃ m,(i+1) % 4=m:=⟨_,rfl⟩;have ae:m<4:=by omega
   have E:=b.cell i (by rw[v.out i a];omega);rw[J.out i i a (IB _)] at E;have D:=b.cell (12+m) (by rw[v.out i a];omega);rw[J.out i (12+m) a (by omega)] at D;have f1:=b.frozen i;have c3:=g.cell C1 (by show gc≠w.heap.size;omega);have c4:=(g.by X1 (by omega)).cell (row.getD (12+m) 0).toNat (by rw[rG];exact ej _);rw[wj] at c4;have l:=H1.out i d;rw[L] at l;have z:=da (row.getD i 0) (dg (row.getD (12+m) 0));have y:=ej (row.getD (12+m) 0);have aa:((row.getD (12+m) 0).toNat:Int)<256:=by omega
   generalize row.getD (12+m) 0=U at *;generalize row.getD i 0=V at *;generalize dg U=Z at *;generalize V ^^^ Z=Y at *;have I:=Lib.hid l;have i1:IntKind.i64.wrap ((i:Int)+1)=(i:Int)+1:=IA _ (by omega);have i2:((i:Int)+1).tmod 4=(m:Int):=by rw[Ji (by omega)];omega
   have i3:((i:Int)+1) % 4=(m:Int):=by omega
   have i4:(m:Int)<4:=by omega
   have i5:0<=(m:Int):=by omega
   clear l L y;go_wp2_with fail;go_region
   all_goals
    go_wp2_with fail;go_roundw
    case rel=>exact⟨i+1,by omega,by go_num,(b.set i _ I.out).drew,(g.setCell i _).drew⟩
    case measure=>simp[intOf];omega
  ·obtain rfl:i=4:=by omega
   have S:=b.cell 0 (by rw[v.out 4 a];omega);rw[T.out] at S;have f0:=b.frozen 0;have z:=da (M.getD 0 0) r;have s:=b.set 0 _ h.out;have n:=g.setCell 0 (.int .u8 ((M.getD 0 0 ^^^ r).toNat:Int));generalize M.getD 0 0 ^^^ r=Y at *;generalize M.getD 0 0=V at *;clear h H1 J v T b g;go_wp2_with fail;generalize wr.setCell ⟨w.heap.size,0,none⟩ (.int .u8 (Y.toNat:Int))=W2 at *;clear S f0 z;go_loopw[38] (λp wr=>∃ i:Nat,i<=12/\p=.int .i64 i/\By 231 wr w.heap.size (aP row N (i+4))/\Wr w.heap.size G wr) (λp _=>12 - (intOf p).toNat)
   case atStart=>exact⟨0,by omega,rfl,s,n⟩
   case round=>
    clear s n;obtain⟨i,a,rfl,b,g⟩:=hrel;by_cases d:i<12
    ·have hq:(i:Int)<12:=by omega
     have ad:(i:Int)<16:=by omega
     have ab:(i:Int)+4<16:=by omega
     have E:=b.cell (i+4) (by rw[X.out i a];omega);have D:=b.cell i (by rw[X.out i a];omega);obtain⟨R,Q⟩:=G2.out i d;rw[R] at E;rw[Q] at D;have f1:=b.frozen (i+4);have l:=H2.out i d;have z:=da (row.getD (i+4) 0) (N.getD i 0);generalize row.getD (i+4) 0=U at *;generalize N.getD i 0=V at *;generalize U ^^^ V=Y at *;have I:=Lib.hid l;have i1:IntKind.i64.wrap ((i:Int)+4)=(i:Int)+4:=IA _ (by omega);have i2:((i:Int)+4).toNat=i+4:=by omega
     have i3:(0:Int)<=(i:Int)+4:=by omega
     clear l R Q;go_wp2_with fail;go_region
     all_goals
      go_wp2_with fail;go_roundw
      case rel=>exact⟨i+1,by omega,by go_num,(b.set (i+4) _ I.out).drew,(g.setCell (i+4) _).drew⟩
      case measure=>simp[intOf];omega
    ·obtain rfl:i=12:=by omega
     rw[A2.out] at b;have hR:=g.by u (by omega);have hk:Kp w wr:=Below.trans (show Below w.heap.size w G from k) (g.below k.size (IB _));clear d a g u k;go_wp2_with(first
      | (refine po underlying231 (by kernel_rfl) rfl (.tmp 4) rfl w.heap.size N rfl b H ?_)
      | (refine rH (by kernel_rfl) rfl rfl (.tmp 6) (.tmp 51) rfl (w.heap.size+1) (List.replicate 16 0) N rfl rfl hR (by decide) H ?_;intro w5 B o))
     refine bodyPost_ret (EK underlying231 (by kernel_rfl) rfl _ _ (w.heap.size+1) N rfl B H) rfl ?_;exact⟨rfl,o.below hk (by omega)⟩
