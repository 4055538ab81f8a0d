import Derived.Test.YthmhklmkgkfcpaaGreatDoorU2
import Derived.Test.YthmhklmkgkfcpaaGreatDoorU8
import Derived.Test.YthmhklmkgkfcpaaGreatDoorU13
import Derived.Test.YthmhklmkgkfcpaaGreatDoorU14
import Derived.Test.YthmhklmkgkfcpaaGreatDoorU20
import Derived.Test.YthmhklmkgkfcpaaGreatDoorU23
import Derived.Test.YthmhklmkgkfcpaaGreatDoorU24
import Derived.RegionTactic
import Derived.BigRegion
import Derived.Maps.AppendAt
import Derived.Deep.RegionHeld3
set_option linter.unusedVariables false
set_option linter.unusedSimpArgs false
set_option maxHeartbeats 8000000
set_option maxRecDepth 100000
namespace Go.Proofs.YthmhklmkgkfcpaaGreatDoor
open Go.RowKit
def ao8:List UInt8:=[108,111,99,107]
def tagS:List UInt8:=[116,97,103]
def ahl (key:List UInt8):List UInt8:=labR key ao8 [] 16
def ahm (key:List UInt8):List UInt8:=labR key tagS [] 32
theorem afD (key:List UInt8):(ahl key).length=16:=by
 exact (congrArg List.length (afk (n:=16) key (labI ao8 [] 16) (by omega)).2).trans (abP _ (abc _ _) 16)
theorem afE (key:List UInt8):(ahm key).length=32:=by
 exact (congrArg List.length (afk (n:=32) key (labI tagS [] 32) (by omega)).2).trans (abP _ (abc _ _) 32)
def halE (key:List UInt8):Int:=if key.length=32 then 0 else 1
def halA (key:List UInt8):List UInt8:=if key.length=32 then ahl key else []
def halB (key:List UInt8):List UInt8:=if key.length=32 then ahm key else []
def toldB (nonce aad s:List UInt8):List UInt8:=rowB aad++(nonce++s)
def tagB (key nonce aad s:List UInt8):List UInt8:=macB (ahm key) (toldB nonce aad s)
theorem akw (key nonce aad s:List UInt8):(tagB key nonce aad s).length=32:=adl _ _
def abd (key nonce b:List UInt8):List UInt8:=strL (adV (ahl key)) nonce b
def aeQ (key nonce aad b:List UInt8):List UInt8:=abd key nonce b++tagB key nonce aad (abd key nonce b)
def okK (key nonce:List UInt8):Prop:=key.length=32∧nonce.length=12
instance (key nonce:List UInt8):Decidable (okK key nonce):=by unfold okK;infer_instance
def ao9 (key nonce:List UInt8):Int:=if okK key nonce then 0 else 1
def apa (key nonce aad b:List UInt8):List UInt8:=if okK key nonce then aeQ key nonce aad b else []
def aeR (key nonce aad b:List UInt8):Int:=
 if okK key nonce then (if b.length<32 then 3 else if tagB key nonce aad (b.take (b.length - 32))=b.drop (b.length - 32) then 0 else 5) else 1
def afo (key nonce aad b:List UInt8):List UInt8:=if aeR key nonce aad b=0 then abd key nonce (b.take (b.length - 32)) else []
theorem acY (key nonce b:List UInt8):(abd key nonce b).length=b.length:=acD _ _ _
theorem adX (key nonce aad b:List UInt8):(aeQ key nonce aad b).length=b.length+32:=by
 unfold aeQ;rw[List.length_append,acY,akw]
theorem akx (key nonce aad b:List UInt8):(aeQ key nonce aad b).take b.length=abd key nonce b∧(aeQ key nonce aad b).drop b.length=tagB key nonce aad (abd key nonce b):=by
 unfold aeQ;have h:=acY key nonce b;exact ⟨by rw[List.take_append_of_le_length (by omega),List.take_of_length_le (by omega)],by rw[List.drop_append_of_le_length (by omega),List.drop_eq_nil_of_le (by omega),List.nil_append]⟩
theorem anR (K nonce b:List UInt8):strL K nonce (strL K nonce b)=b:=by
 refine afm b.length _ _ (by rw[acD,acD]) rfl fun j hj=>?_
 rw[alr _ _ _ _ (by rw[acD];exact hj)];unfold strF;rw[alr _ _ _ _ hj];unfold strF;rw[UInt8.xor_assoc,UInt8.xor_self,UInt8.xor_zero]
theorem anS {key nonce:List UInt8}(aad b:List UInt8)(h:okK key nonce):aeR key nonce aad (aeQ key nonce aad b)=0∧afo key nonce aad (aeQ key nonce aad b)=b:=by
 have hl:=adX key nonce aad b;obtain ⟨p1,p2⟩:=akx key nonce aad b;have he:aeR key nonce aad (aeQ key nonce aad b)=0:=by
  unfold aeR;rw[if_pos h,if_neg (by omega),hl,Nat.add_sub_cancel,p1,p2,if_pos rfl]
 refine ⟨he,?_⟩;unfold afo;rw[if_pos he,hl,Nat.add_sub_cancel,p1];exact anR _ _ _
def atOk (base:List UInt8)(n:Int):Prop:=base.length=12∧0≤n∧n≤4294967295
instance (base:List UInt8) (n:Int):Decidable (atOk base n):=by unfold atOk;infer_instance
def pubS:List UInt8:=[112,117,98,108,105,99]
def keyS7:List UInt8:=[107,101,121]
def arp:List UInt8:=[110,111,110,99,101]
def pubB (seed:List UInt8):List UInt8:=labR seed pubS [] 32
theorem acg (k l c:List UInt8):(labR k l c 32).length=32:=
 (congrArg List.length (afk (n:=32) k (labI l c 32) (by omega)).2).trans (abP _ (abc _ _) 32)
theorem ajE (k l c:List UInt8):(labR k l c 12).length=12:=
 (congrArg List.length (afk (n:=12) k (labI l c 12) (by omega)).2).trans (abP _ (abc _ _) 12)
theorem aaM (seed:List UInt8):(pubB seed).length=32:=acg _ _ _
def pubE (seed:List UInt8):Int:=if seed.length=32 then 0 else 1
def pubR (seed:List UInt8):List UInt8:=if seed.length=32 then pubB seed else []
theorem abQ {s:List UInt8}(h:s.length=32):pubE s=0∧pubR s=pubB s:=⟨if_pos h,if_pos h⟩
theorem agJ {s:List UInt8}(h:¬s.length=32):pubE s=1∧pubR s=[]:=⟨if_neg h,if_neg h⟩
def secB (pub half:List UInt8):List UInt8:=macB pub half
def wkB (pub half info:List UInt8):List UInt8:=labR (secB pub half) keyS7 info 32
def wnB (pub half info:List UInt8):List UInt8:=labR (secB pub half) arp info 12
theorem aqz (pub half info:List UInt8):okK (wkB pub half info) (wnB pub half info):=⟨acg _ _ _,ajE _ _ _⟩
def okW (pub once:List UInt8):Prop:=once.length=32∧pub.length=32
instance (pub once:List UInt8):Decidable (okW pub once):=by unfold okW;infer_instance
def aqA (pub once:List UInt8):Int:=if okW pub once then 0 else 1
def ahn (pub once:List UInt8):List UInt8:=if okW pub once then pubB once else []
def adq (pub half info b:List UInt8):List UInt8:=aeQ (wkB pub half info) (wnB pub half info) [] b
def aho (pub once info b:List UInt8):List UInt8:=if okW pub once then adq pub (pubB once) info b else []
def unE (seed half info b:List UInt8):Int:=if okW half seed then aeR (wkB (pubB seed) half info) (wnB (pubB seed) half info) [] b else 1
def unR (seed half info b:List UInt8):List UInt8:=if okW half seed then afo (wkB (pubB seed) half info) (wnB (pubB seed) half info) [] b else []
theorem ais {pub once:List UInt8}(info b:List UInt8)(h:okW pub once):aqA pub once=0∧ahn pub once=pubB once∧aho pub once info b=adq pub (pubB once) info b:=⟨if_pos h,if_pos h,if_pos h⟩
theorem anT {pub once:List UInt8}(info b:List UInt8)(h:¬okW pub once):aqA pub once=1∧ahn pub once=[]∧aho pub once info b=[]:=⟨if_neg h,if_neg h,if_neg h⟩
theorem apQ {seed half:List UInt8}(info b:List UInt8)(h:okW half seed):unE seed half info b=aeR (wkB (pubB seed) half info) (wnB (pubB seed) half info) [] b∧unR seed half info b=afo (wkB (pubB seed) half info) (wnB (pubB seed) half info) [] b:=⟨if_pos h,if_pos h⟩
theorem arq {seed half:List UInt8}(info b:List UInt8)(h:¬okW half seed):unE seed half info b=1∧unR seed half info b=[]:=⟨if_neg h,if_neg h⟩
theorem al9 {seed half:List UInt8}(info b:List UInt8)(hs:seed.length=32)(hh:half.length=32):unE seed half info (adq (pubB seed) half info b)=0∧unR seed half info (adq (pubB seed) half info b)=b:=by
 obtain ⟨e1,e2⟩:=apQ (seed:=seed) (half:=half) info (adq (pubB seed) half info b) ⟨hs,hh⟩;rw[e1,e2];exact anS [] b (aqz _ _ _)
theorem Rd.nil (w:World):Rd w (.slice none 0 0) []:=⟨none,0,rfl,Nat.le_refl _,Nat.zero_le _,fun _=>rfl,fun x hx=>by cases hx⟩
theorem But.wr {g:Nat}{A B:World}(h:But g A B):Wr g A B:=by
 have hb:=h.below (Below.refl 0 A) (Nat.zero_le g);exact ⟨hb.os,hb.tape,hb.output,by rw[h.size];exact Nat.le_refl _,fun k _ hk=>h.other k hk⟩
theorem Rd.nil5 (w:World):Rd w (.slice none 0 0) []:=⟨none,0,rfl,Nat.le_refl _,Nat.zero_le _,fun _=>rfl,fun x hx=>by cases hx⟩
theorem ae0 (u1 u2 u3:Value)(key nonce b:List UInt8)(w:World)(hu1:Rd w u1 key)(hu2:Rd w u2 nonce)(hu3:Rd w u3 b)(hbl:b.length≤1000000):
  Calls Tryz.prog 173 #[u1,u2,u3] w fun e w'=>(∃ r,e=.returned (.tuple #[r,.int .i64 (strE key nonce)])∧Rd w' r (strR key nonce b))∧Kp w w':=by
 have U:=arN;obtain ⟨a1,c1,rfl,h1,h2⟩:=hu1.shape;obtain ⟨a2,c2,rfl,h3,h4⟩:=hu2.shape;obtain ⟨a3,c3,rfl,h5,h6⟩:=hu3.shape;by_cases hk:key.length=16
 ·by_cases hn:nonce.length=12
  ·have e0:strE key nonce=0:=if_pos ⟨hk,hn⟩
   have r0:strR key nonce b=strL (adV key) nonce b:=if_pos ⟨hk,hn⟩;rw[e0,r0];have HKL:=Lib.hid (acO hk);have HNC:Hid (∀ W,Kp w W→Calls Tryz.prog 205 #[.slice a1 key.length c1] W fun e w'=>(∃ gc bx,e=.returned (.pointer (some ⟨gc,0,none⟩))∧Cph w' gc bx (adV key)∧W.heap.size≤gc∧W.heap.size≤bx)∧Kp W w'):=fun W hW=>aiS _ key W (hu1.kp hW) hk
   rw[hk] at HNC h1 ⊢;have HB3:=Lib.hid hu3;have HB2:=Lib.hid hu2;rw[hn] at HB2 h3 ⊢;have HN:=Lib.hid hn;obtain ⟨len,hlen⟩:∃ n,b.length=n:=⟨_,rfl⟩;rw[hlen] at HB3 h5 hbl ⊢;have HL:=Lib.hid hlen;generalize adV key=K at *;clear hu1 hu2 hu3 e0 r0 hk hn hlen;go_enter Tryz.func173,Tryz.ntmps173;go_wp2_with fail;refine (HNC.out w (Kp.refl w)).mono ?_;rintro _ w1 ⟨⟨gc,bx,rfl,hC,hgc,hbx⟩,k1⟩;clear HNC;go_wp2_with (first
    | (refine abO U rfl (.tmp 26) (.tmp 27) rfl 231 w1.heap.size _ nonce (List.replicate 16 0) 16 16 rfl rfl (By.made _ _ _ _ rfl) (by decide) (HB2.out.kp (k1.alloc _)) (by rw[HN.out];decide) ?_;intro w2 hS2 hbut2;have k2:Kp w1 w2:=hbut2.below ((Kp.refl w1).alloc _) (Nat.le_refl _);clear hbut2)
    | (at_make;refine aaT (z:=.int .u8 0) (b:=1) Tryz.underlying24 Tryz.info5 rfl (by decide) rfl _ _ rfl len rfl rfl hbl ?_;intro w3 hw3;have hO3:By 5 w3 w2.heap.size (List.replicate len 0):=(by rw[hw3];exact By.fresh _ _ _);have k3:Kp w2 w3:=(by rw[hw3];exact (Kp.refl _).alloc _);clear hw3)
    | (refine abO U rfl (.tmp 32) (.tmp 33) rfl 5 w2.heap.size _ b (List.replicate len 0) len len rfl rfl hO3 (by simp) (HB3.out.kp ((k1.trans k2).trans k3)) (by rw[HL.out];exact Nat.le_refl _) ?_;intro w4 hO4 hbut4;have k4:Kp w2 w4:=hbut4.below k3 (Nat.le_refl _);clear hbut4 hO3 k3))
   rw[HL.out,List.drop_eq_nil_of_le (by simp),List.append_nil] at hO4;rw[HN.out] at hS2;have hlt1:gc<w1.heap.size:=World.block_lt_of_cell? w1 _ hC.ptr;have hlt2:bx<w1.heap.size:=hC.box.lt;have hlt3:w1.heap.size<w2.heap.size:=hS2.lt;have hw1:=k1.size;have hC4:=(hC.kp k2).kp k4;have hS4:=hS2.kp k4;have hk4:Kp w w4:=(k1.trans k2).trans k4;have HSL:=Lib.hid (acD K nonce b);have HSG:Hid (∀ j,j<len→(strL K nonce b)[j]?=some (strF K nonce b j)):=fun j hj=>anQ K nonce b j (by rw[HL.out];exact hj)
   have hO4':By 5 w4 w2.heap.size (mixB b (strL K nonce b) (min (16*0) len)):=by
    rw[Nat.mul_zero,Nat.zero_min,show mixB b (strL K nonce b) 0=b by simp[mixB]];exact hO4
   obtain ⟨gst,hgst⟩:∃ g,w1.heap.size=g:=⟨_,rfl⟩;obtain ⟨go,hgo⟩:∃ g,w2.heap.size=g:=⟨_,rfl⟩;rw[hgst] at hlt1 hlt2 hlt3 hw1 hS4 ⊢;rw[hgo] at hlt3 hO4' ⊢;clear hgst hgo hO4 hS2 hC k1 k2 k4;have HDEF:Hid (∀ j,strF K nonce b j=b.getD j 0 ^^^ (air K (ctrB nonce (j / 16))).getD (j % 16) 0):=fun _=>rfl
   have HLL:Hid (∀ x,(air K x).length=16):=ajD K;go_loopw[11] (fun p wr=>∃ (q:Nat) (y:List UInt8),16*q≤len+15∧p=.int .i64 (16*q:Nat)∧By 5 wr go (mixB b (strL K nonce b) (min (16*q) len))∧y.length=4∧By 231 wr gst (nonce++y)∧Cph wr gc bx K∧Kp w wr) (fun p _=>len+16 - (intOf p).toNat)
   case atStart=>exact ⟨0,_,by omega,rfl,hO4',by simp,hS4,hC4,hk4⟩
   case round=>
    clear hO4' hS4 hC4 hk4;obtain ⟨q,y,hq,rfl,hO,hy,hS,hC,hk⟩:=hrel;obtain ⟨f,hf⟩:∃ f,16*q=f:=⟨_,rfl⟩;rw[hf] at hq hO ⊢;by_cases hlt:f<len
    ·have q1:(f:Int)<(len:Int):=by omega
     have e1:(f:Int).tdiv 16=(q:Int):=by rw[Int.tdiv_eq_ediv_of_nonneg (by omega)];omega
     have e2:(f:Int) / 16=(q:Int):=by omega
     have e3:IntKind.i64.wrap ((q:Int)+1)=(q:Int)+1:=IntWalk.i64_in _ (by omega);have e4:IntKind.i64.wrap (q:Int)=(q:Int):=IntWalk.i64_in _ (by omega);have hnk:aed ((q:Int)+1) 4:=by
      unfold aed;refine ⟨by omega,by omega,by omega,?_⟩;show (q:Int)+1<4294967296
      omega
     have hnum:=aeq ((q:Int)+1) 4 wr (by omega);rw[(adP hnk).1,(adP hnk).2,show ((4:Int)).toNat=4 from rfl,show ((q:Int)+1).toNat=q+1 by omega] at hnum;have HNUM:=Lib.hid hnum;have HCT:Hid ((nonce++y).take 12++(be 4 (q+1)++(nonce++y).drop (12+(be 4 (q+1)).length))=ctrB nonce q):=by
      unfold Hid ctrB;rw[aak,List.take_append_of_le_length (by rw[HN.out];exact Nat.le_refl _),List.take_of_length_le (by rw[HN.out];exact Nat.le_refl _),List.drop_eq_nil_of_le (by rw[List.length_append,HN.out,hy];exact Nat.le_refl _),List.append_nil]
     have HBL:=Lib.hid (aak 4 (q+1));have HCL:Hid ((ctrB nonce q).length=16):=by rw[Hid,akv,HN.out]
     have HNY:Hid ((nonce++y).length=16):=by rw[Hid,List.length_append,HN.out,hy]
     clear hnum hnk;go_wp2_with fail;refine HNUM.out.mono ?_;rintro _ w5 ⟨v5,rfl,ho5,k5⟩;have hS5:=hS.kp k5;clear HNUM;go_wp2_with (first
      | (refine agI U rfl (.tmp 51) (.tmp 52) rfl 231 gst 12 v5 (be 4 (q+1)) (nonce++y) 4 4 rfl rfl hS5 ho5.rd (by rw[HBL.out];exact Nat.le_refl _) (by rw[HBL.out];decide) (by rw[HBL.out,HNY.out];decide) ?_;intro w6 hS6 hbut6)
      | (refine ab9 Tryz.underlying231 (by kernel_rfl) rfl (.tmp 9) rfl gst (ctrB nonce q) rfl (by rw[← HCT.out];exact hS6) HCL.out ?_)
      | (refine acH (by kernel_rfl) rfl rfl (.tmp 14) (.tmp 54) rfl w6.heap.size (List.replicate 16 0) (ctrB nonce q) rfl rfl (By.made _ _ _ _ rfl) (by decide) HCL.out ?_;intro w7 hB7 hbut7))
     rw[HCT.out] at hS6;have hw6:=hbut6.wr;have hO6:=hw6.by (hO.kp k5) (by omega);have hC6:=(hC.kp k5).wr hw6 (by omega) (by omega);have hk6:Kp w w6:=Below.trans (show Below w.heap.size w w5 from hk.trans k5) (hw6.below (hk.trans k5).size (by omega));have k67:Kp w6 w7:=hbut7.below ((Kp.refl w6).alloc _) (Nat.le_refl _);have hC7:=hC6.kp k67;have hO7:=hO6.kp k67;have hS7:=hS6.kp k67;have hk7:=hk6.trans k67;have l1:gst<w6.heap.size:=hS6.lt;have l2:go<w6.heap.size:=hO6.lt;have l3:=hk6.size;obtain ⟨gs,hgs⟩:∃ g,w6.heap.size=g:=⟨_,rfl⟩;rw[hgs] at hB7 l1 l2 l3 ⊢;clear hbut6 hbut7 hw6 hO6 hC6 hS6 k67 hgs hS5 ho5 k5 hS hC hO hk6;refine (apB gc gs bx (ctrB nonce q) K w7 HCL.out HKL.out (by omega) (by omega) hC7 hB7).mono ?_;rintro _ w8 ⟨rfl,hB8,hw8⟩;have hO8:=hw8.by hO7 (by omega);have hS8:=hw8.by hS7 (by omega);have hC8:=hC7.wr hw8 (by omega) (by omega);have hk8:Kp w w8:=Below.trans (show Below w.heap.size w w7 from hk7) (hw8.below hk7.size (by omega));have hmf:min f len=f:=by omega
     rw[hmf] at hO8;have i1:IntKind.i64.wrap ((len:Int) - (f:Int))=(len:Int) - (f:Int):=IntWalk.i64_in _ (by omega);clear hmf;by_cases hd:16≤len - f
     ·have hm3:Hid (f+16=min (16*(q+1)) len):=by show f+16=min (16*(q+1)) len;omega
      have d1:(16:Int)≤(len:Int) - (f:Int):=by omega
      have hm2:f+16≤len:=by omega
      clear hd;clear hO7 hC7 hS7 hB7 hw8 hk7 hk;go_wp2_with fail;go_loopw[62] (fun p wr=>∃ i:Nat,i≤16∧p=.int .i64 i∧By 5 wr go (mixB b (strL K nonce b) (f+i))∧Wr go w8 wr) (fun p _=>16 - (intOf p).toNat)
      case atStart=>exact ⟨0,by omega,rfl,hO8,Wr.refl _ _⟩
      case round=>
       clear hO8;obtain ⟨i,hi,rfl,hO,hw⟩:=hrel;by_cases hlti:i<16
       ·have qi:(i:Int)<(16:Int):=by omega
        obtain ⟨j,hj⟩:∃ j,f+i=j:=⟨_,rfl⟩;have hjl:j<len:=by omega
        have hn1:(mixB b (strL K nonce b) j).set j (strF K nonce b j)=mixB b (strL K nonce b) (j+1):=acn _ _ j (by rw[HSL.out]) (by rw[HL.out];exact hjl) _ (HSG.out j hjl);have hml:(mixB b (strL K nonce b) j).length=len:=by rw[aaV _ _ j (by rw[HSL.out]) (by rw[HL.out];omega),HL.out]
        rw[hj] at hO;have c0:=hO.cell j (by rw[hml];exact hjl);rw[aeZ _ _ j j (by rw[HSL.out]) (by rw[HL.out];omega) (Nat.le_refl _)] at c0;have f0:=hO.frozen j;have c1:=(hw.by hB8 (by omega)).cell i (by rw[HLL.out];omega);have hx:=abw (b.getD j 0) ((air K (ctrB nonce q)).getD i 0);have hdef:=HDEF.out j;rw[show j / 16=q by omega,show j % 16=i by omega] at hdef;rw[← hdef] at hx;have HNX:=Lib.hid (show f+(i+1)=j+1 by omega);have u1:(f:Int)+(i:Int)=(j:Int):=by omega
        have u2:IntKind.i64.wrap (j:Int)=j:=IntWalk.i64_in _ (by omega);have u3:(j:Int)<(len:Int):=by omega
        have u4:(i:Int)<16:=by omega
        generalize strF K nonce b j=Y at *;generalize b.getD j 0=X1 at *;generalize (air K (ctrB nonce q)).getD i 0=X2 at *;have HN1:=Lib.hid hn1;clear hn1 hml hj hdef;go_wp2_with fail;go_region
        all_goals
         go_wp2_with fail;go_roundw
         case rel=>exact ⟨i+1,by omega,by go_num,by rw[HNX.out];exact hO.set j _ HN1.out,(hw.setCell j _).drew⟩
         case measure=>simp[intOf];omega
       ·obtain rfl:i=16:=by omega
        have hO2:By 5 wr go (mixB b (strL K nonce b) (min (16*(q+1)) len)):=by rw[← hm3.out];exact hO
        have hS2:By 231 wr gst (nonce++be 4 (q+1)):=hw.by hS8 (by omega);have hC2:=hC8.wr hw (by omega) (by omega);have hk2:Kp w wr:=Below.trans (show Below w.heap.size w w8 from hk8) (hw.below hk8.size (by omega));have e9:IntKind.i64.wrap ((f:Int)+16)=((16*(q+1):Nat):Int):=by rw[IntWalk.i64_in _ (by omega)];omega
        have HF:=Lib.hid hf;clear hO hw hB8 hS8 hC8 hk8 hf;go_wp2_with fail;go_roundw
        case rel=>exact ⟨q+1,_,by have:=HF.out;omega,rfl,hO2,aak 4 (q+1),hS2,hC2,hk2⟩
        case measure=>have:=HF.out;simp[intOf];omega
     ·obtain ⟨m,hm⟩:∃ m,len - f=m:=⟨_,rfl⟩
      have hm3:Hid (f+m=min (16*(q+1)) len):=by show f+m=min (16*(q+1)) len;omega
      have d0:(len:Int) - (f:Int)=(m:Int):=by omega
      have d1:¬(16:Int)≤(m:Int):=by omega
      have d2:IntKind.i64.wrap (m:Int)=m:=IntWalk.i64_in _ (by omega);have hm2:f+m≤len:=by omega
      have hm16:m<16:=by omega
      clear hd hm i1;clear hO7 hC7 hS7 hB7 hw8 hk7 hk;go_wp2_with fail;go_loopw[62] (fun p wr=>∃ i:Nat,i≤m∧p=.int .i64 i∧By 5 wr go (mixB b (strL K nonce b) (f+i))∧Wr go w8 wr) (fun p _=>m - (intOf p).toNat)
      case atStart=>exact ⟨0,by omega,rfl,hO8,Wr.refl _ _⟩
      case round=>
       clear hO8;obtain ⟨i,hi,rfl,hO,hw⟩:=hrel;by_cases hlti:i<m
       ·have qi:(i:Int)<(m:Int):=by omega
        obtain ⟨j,hj⟩:∃ j,f+i=j:=⟨_,rfl⟩;have hjl:j<len:=by omega
        have hn1:(mixB b (strL K nonce b) j).set j (strF K nonce b j)=mixB b (strL K nonce b) (j+1):=acn _ _ j (by rw[HSL.out]) (by rw[HL.out];exact hjl) _ (HSG.out j hjl);have hml:(mixB b (strL K nonce b) j).length=len:=by rw[aaV _ _ j (by rw[HSL.out]) (by rw[HL.out];omega),HL.out]
        rw[hj] at hO;have c0:=hO.cell j (by rw[hml];exact hjl);rw[aeZ _ _ j j (by rw[HSL.out]) (by rw[HL.out];omega) (Nat.le_refl _)] at c0;have f0:=hO.frozen j;have c1:=(hw.by hB8 (by omega)).cell i (by rw[HLL.out];omega);have hx:=abw (b.getD j 0) ((air K (ctrB nonce q)).getD i 0);have hdef:=HDEF.out j;rw[show j / 16=q by omega,show j % 16=i by omega] at hdef;rw[← hdef] at hx;have HNX:=Lib.hid (show f+(i+1)=j+1 by omega);have u1:(f:Int)+(i:Int)=(j:Int):=by omega
        have u2:IntKind.i64.wrap (j:Int)=j:=IntWalk.i64_in _ (by omega);have u3:(j:Int)<(len:Int):=by omega
        have u4:(i:Int)<16:=by omega
        generalize strF K nonce b j=Y at *;generalize b.getD j 0=X1 at *;generalize (air K (ctrB nonce q)).getD i 0=X2 at *;have HN1:=Lib.hid hn1;clear hn1 hml hj hdef;go_wp2_with fail;go_region
        all_goals
         go_wp2_with fail;go_roundw
         case rel=>exact ⟨i+1,by omega,by go_num,by rw[HNX.out];exact hO.set j _ HN1.out,(hw.setCell j _).drew⟩
         case measure=>simp[intOf];omega
       ·obtain rfl:i=m:=by omega
        have hO2:By 5 wr go (mixB b (strL K nonce b) (min (16*(q+1)) len)):=by rw[← hm3.out];exact hO
        have hS2:By 231 wr gst (nonce++be 4 (q+1)):=hw.by hS8 (by omega);have hC2:=hC8.wr hw (by omega) (by omega);have hk2:Kp w wr:=Below.trans (show Below w.heap.size w w8 from hk8) (hw.below hk8.size (by omega));have e9:IntKind.i64.wrap ((f:Int)+16)=((16*(q+1):Nat):Int):=by rw[IntWalk.i64_in _ (by omega)];omega
        have HF:=Lib.hid hf;clear hO hw hB8 hS8 hC8 hk8 hf;go_wp2_with fail;go_roundw
        case rel=>exact ⟨q+1,_,by have:=HF.out;omega,rfl,hO2,aak 4 (q+1),hS2,hC2,hk2⟩
        case measure=>have:=HF.out;simp[intOf];omega
    ·have hO2:By 5 wr go (strL K nonce b):=by
      rw[show min f len=len by omega] at hO;have:=adg b (strL K nonce b) (by rw[HSL.out]);rw[HSL.out,HL.out] at this;rw[this] at hO;exact hO
     have hrd:=hO2.rdAll (n:=len) (c:=len) (by rw[HSL.out,HL.out]) (Nat.le_refl _) (by unfold maxLen;omega);have hq2:¬(f:Int)<(len:Int):=by omega
     clear hO hO2 hS hC;go_wp2_with fail;go_ret2;exact ⟨⟨_,rfl,hrd⟩,hk⟩
  ·have e0:strE key nonce=1:=if_neg (fun h=>hn h.2)
   have r0:strR key nonce b=[]:=if_neg (fun h=>hn h.2);rw[e0,r0];have hb2:((nonce.length:Int)==12)=false:=beq_eq_false_iff_ne.2 (by omega);have hb3:¬(nonce.length:Int)=12:=by omega
   rw[hk];go_enter Tryz.func173,Tryz.ntmps173;go_wp2_with fail;go_ret2;exact ⟨⟨_,rfl,Rd.nil5 _⟩,Kp.refl _⟩
 ·have e0:strE key nonce=1:=if_neg (fun h=>hk h.1)
  have r0:strR key nonce b=[]:=if_neg (fun h=>hk h.1);rw[e0,r0];have hb2:((key.length:Int)==16)=false:=beq_eq_false_iff_ne.2 (by omega);have hb3:¬(key.length:Int)=16:=by omega
  go_enter Tryz.func173,Tryz.ntmps173;go_wp2_with fail;go_ret2;exact ⟨⟨_,rfl,Rd.nil5 _⟩,Kp.refl _⟩
theorem alF {key nonce:List UInt8}(b:List UInt8)(h:nonce.length=12):strE (ahl key) nonce=0∧strR (ahl key) nonce b=abd key nonce b:=
 ⟨if_pos ⟨afD key,h⟩,if_pos ⟨afD key,h⟩⟩
theorem Rd.pre6 {w:World}{a:Option Addr}{n c:Nat}{l:List UInt8}(h:Rd w (.slice a n c) l)(k:Nat)(hk:k≤n):Rd w (.slice a k c) (l.take k):=by
 obtain ⟨a',c',e,h1,h2,h3,h4⟩:=h;simp only[Value.slice.injEq] at e;obtain ⟨rfl,rfl,rfl⟩:=e;have hl:(l.take k).length=k:=by simp;omega
 refine ⟨a,c,by rw[hl],by omega,h2,h3,fun x hx i hi=>?_⟩;rw[hl] at hi;rw[h4 x hx i (by omega),List.getElem_take]
theorem Rd.post6 {w:World}{g o n c:Nat}{l:List UInt8}(h:Rd w (.slice (some ⟨g,o,none⟩) n c) l)(k m:Nat)(hk:k+m=n)(hc:k<c):Rd w (.slice (some ⟨g,o+k,none⟩) m (c - k)) (l.drop k):=by
 have:=h.cutAt k m (by omega) hc;have hl:=h.len.1;rwa [List.take_of_length_le (by rw[List.length_drop];omega)] at this
theorem ai2 (arO:Value)(seed:List UInt8)(w:World)(hu:Rd w arO seed):
  Calls Tryz.prog 50 #[arO] w fun e w'=>(∃ r,e=.returned (.tuple #[r,.int .i64 (pubE seed)])∧Rd w' r (pubR seed)∧aaN w.heap.size r)∧Kp w w':=by
 obtain ⟨a1,c1,rfl,h1,h2⟩:=hu.shape;by_cases hk:seed.length=32
 ·obtain ⟨e0,e1⟩:=abQ hk
  rw[e0,e1];have HL:Hid (Calls Tryz.prog 63 #[.slice a1 seed.length c1,.string ⟨#[112,117,98,108,105,99]⟩,.slice none 0 0,.int .i64 32] w fun e w'=>(∃ v,e=.returned (.tuple #[v,.int .i64 0])∧Rd w' v (pubB seed)∧aaN w.heap.size v)∧Kp w w'):=afK _ ⟨#[112,117,98,108,105,99]⟩ _ seed [] 32 w hu (abn w) (by decide) (by simp) (by omega);rw[hk] at HL h1 ⊢;clear hu hk e0 e1;go_enter Tryz.func50,Tryz.ntmps50;go_wp2_with fail;refine HL.out.mono ?_;rintro _ w1 ⟨⟨v1,rfl,r1,n1⟩,k1⟩;obtain ⟨a,n,c,rfl⟩:=r1.sl;go_wp2_with fail;go_ret2;exact ⟨⟨_,rfl,r1,n1⟩,k1⟩
 ·obtain ⟨e0,e1⟩:=agJ hk
  rw[e0,e1];have hb2:((seed.length:Int)==32)=false:=beq_eq_false_iff_ne.2 (by omega);have hb3:¬(seed.length:Int)=32:=by omega
  go_enter Tryz.func50,Tryz.ntmps50;go_wp2_with fail;go_ret2;exact ⟨⟨_,rfl,abn _,aaN.nil _ _ _⟩,Kp.refl _⟩
theorem ak4 (arO:Value)(seed:List UInt8)(w:World)(hu:Rd w arO seed):
  Calls Tryz.prog 33 #[arO] w fun e w'=>(∃ r,e=.returned r∧Rd w' r (pubR seed)∧aaN w.heap.size r)∧Kp w w':=by
 have HP:=Lib.hid (ai2 arO seed w hu);go_enter Tryz.func33,Tryz.ntmps33;go_wp2_with fail;refine HP.out.mono ?_;rintro _ w1 ⟨⟨p,rfl,r1,n1⟩,k1⟩;have R1:=Lib.hid r1;obtain ⟨a,n,c,rfl⟩:=r1.sl;clear HP r1;go_wp2_with fail;go_ret;exact ⟨⟨_,rfl,R1.out,n1⟩,k1⟩
theorem ahb (arO:Value)(seed:List UInt8)(w:World)(hu:Rd w arO seed):
  Calls Tryz.prog 33 #[arO] w fun e w'=>(∃ r,e=.returned r∧Rd w' r (pubR seed))∧Kp w w':=
 (ak4 arO seed w hu).mono fun e w' ⟨⟨v,h1,h2,_⟩,h3⟩=>⟨⟨v,h1,h2⟩,h3⟩
end Go.Proofs.YthmhklmkgkfcpaaGreatDoor
