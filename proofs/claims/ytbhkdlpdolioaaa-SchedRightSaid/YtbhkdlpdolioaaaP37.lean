import Derived.Test.YtbhkdlpdolioaaaP26
set_option linter.unusedVariables false
set_option linter.unusedSimpArgs false
set_option maxHeartbeats 8000000
set_option maxRecDepth 100000
namespace Go.Proofs.Ytbhkdlpdolioaaa
open Go.RowKit
theorem aeP (i n:Nat)(x y z:UInt8)(p o b off c:Nat)(T1 T2:TypeId)(w:World)(hi:i<n)(hn:n≤c)(hc:c≤maxLen)(hp:One T1 w p (.int .u8 (z.toNat:Int)))(ho:One T2 w o (.slice (some ⟨b,off,none⟩) n c))
  (hcell:w.cell? ⟨b,off+i,none⟩=some (.int .u8 (y.toNat:Int))) (z':UInt8) (hz:z ||| (x ^^^ y)=z'):
  Calls Try.prog 78 #[.int .i64 i,.int .u8 (x.toNat:Int),.pointer (some ⟨p,0,none⟩),.pointer (some ⟨o,0,none⟩)] w fun e w'=>e=.returned (.tuple #[])∧∃ n,w'=(w.setCell ⟨p,0,none⟩ (.int .u8 (z'.toNat:Int))).drewN n:=by
 have cp:=hp.cell;have fp:=hp.frozen;have co:=ho.cell;have hb:=adv x y;have hb2:=afW z (x ^^^ y);rw[hz] at hb2;unfold maxLen at hc;have hi1:(i:Int)<(n:Int):=by omega
 have hi0:(0:Int)≤(i:Int):=by omega
 generalize z'.toNat=Z at *;generalize (x ^^^ y).toNat=XY at *;clear hz;go_enter Try.func78,Try.ntmps78;go_wp2_with fail;go_region
 all_goals
  go_end0
  exact ⟨rfl,1,rfl⟩
theorem afk (l m:List UInt8)(k:Nat):orT l m k ||| (l.getD k 0 ^^^ m.getD k 0)=orT l m (k+1):=rfl
theorem One.drewN {T:TypeId}{w:World}{p:Nat}{v:Value}(h:One T w p v)(n:Nat):One T (w.drewN n) p v:=h.kp ((Kp.refl w).drewN n)
theorem acX (v af9:Value)(l m:List UInt8)(p o:Nat)(T1 T2:TypeId)(w w3:World)(h:Rd w v l)(hu:Rd w af9 m)(hlm:l.length=m.length)(hk:Kp w w3)(hpw:w.heap.size≤p)
  (hp:One T1 w3 p (.int .u8 0)) (ho:One T2 w3 o af9) (hop:o≠p):
  Calls Try.prog 77 #[v,.func (.func 78) #[] #[.pointer (some ⟨p,0,none⟩),.pointer (some ⟨o,0,none⟩)]] w3 fun e w'=>e=.returned (.tuple #[])∧One T1 w' p (.int .u8 ((orT l m l.length).toNat:Int))∧Kp w w':=by
 obtain ⟨a,cc,rfl,h1,h2⟩:=h.shape;obtain ⟨a',c',rfl,h1',h2'⟩:=hu.shape;unfold maxLen at h2;have HLM:=Lib.hid hlm;have h0:One T1 w3 p (.int .u8 ((orT l m 0).toNat:Int)):=hp;have hlm':l.length≤m.length:=by omega
 clear hlm hp;go_enter Try.func77,Try.ntmps77;go_wp2_with fail;go_loopw[8] (fun i wr=>∃ k:Nat,k≤l.length∧i=.int .i64 k∧One T1 wr p (.int .u8 ((orT l m k).toNat:Int))∧Same (fun k=>k=p) w3 wr∧Kp w wr) (fun i _=>(l.length - (intOf i).toNat))
 case atStart=>exact ⟨0,by omega,rfl,h0,Same.refl _ _,hk⟩
 case round=>
  clear h0;obtain ⟨k,hkl,rfl,hB,hS,hkp⟩:=hrel;by_cases hlt:k<l.length
  ·obtain ⟨b,off,rfl,_,hcell⟩:=h.at k hlt
   obtain ⟨b',off',rfl,_,hcell'⟩:=hu.at k (by omega);have hc0:=hkp.cell (hcell k hlt);have hc0':=hkp.cell (hcell' k (by omega));have hor:=ho.same hS hop;have HX:=Lib.hid (aeP k m.length (l.getD k 0) (m.getD k 0) (orT l m k) p o b' off' c' T1 T2 wr (by omega) h1' h2' hB hor hc0' _ (afk l m k));clear hcell hcell' hc0';generalize hx:l.getD k 0=x at *;clear hx;go_wp2_with (go_at_call 78;refine HX.out.mono ?_;rintro e w4 ⟨rfl,n4,rfl⟩)
   go_roundw
   case rel=>exact ⟨k+1,by omega,by go_num,(hB.set _).drewN _,(hS.setCell _ _ rfl).drewN _,Kp.drewN (Below.setCell hkp hpw _) _⟩
   case measure=>simp[intOf];omega
  ·obtain rfl:k=l.length:=by omega
   go_wp2_with fail;go_end0
   exact ⟨rfl,hB,hkp⟩
theorem afl (af9 v:Value)(l m:List UInt8)(w:World)(h:Rd w af9 l)(h':Rd w v m):
  Calls Try.prog 53 #[af9,v] w fun e w'=>e=.returned (.bool (decide (l=m)))∧Kp w w':=by
 obtain ⟨a,c,rfl,h1,h2⟩:=h.shape;obtain ⟨a',c',rfl,h1',h2'⟩:=h'.shape;unfold maxLen at h2 h2';have ho0:One 22 (w.alloc (.cells #[.slice a' m.length c'] 22)) w.heap.size (.slice a' m.length c'):=One.new _ _ _;have HO:=Lib.hid ho0;have co:=ho0.cell;clear ho0;by_cases hlm:l.length=m.length
 ·have d0:((l.length:Int) != (m.length:Int))=false:=by simp[hlm]
  have d1:(l.length != m.length)=false:=by simp[hlm]
  have HA:=Lib.hid (afB l m hlm);have HL:=Lib.hid hlm;clear hlm;go_enter Try.func53,Try.ntmps53;go_wp2_with fail;have hp1:One 5 ((w.alloc (.cells #[.slice a' m.length c'] 22)).alloc (.cells #[.int .u8 0] 5)) (w.heap.size+1) (.int .u8 0):=by
   have:=One.new 5 (w.alloc (.cells #[.slice a' m.length c'] 22)) (.int .u8 0);rwa [World.size_alloc] at this
  refine (acX _ _ l m (w.heap.size+1) w.heap.size _ _ w _ h h' HL.out (((Kp.refl _).alloc _).alloc _) (by omega) hp1 (HO.out.kp ((Kp.refl _).alloc _)) (by omega)).mono ?_;rintro e w4 ⟨rfl,hp4,hk4⟩;have c4:=hp4.cell;have hz:((((orT l m l.length).toNat:Nat):Int)==0)=decide (l=m):=by
   rw[← HA.out,Bool.eq_iff_iff];simp[← UInt8.toNat_inj]
  generalize (orT l m l.length).toNat=Z at *;have HZ:=Lib.hid hz;clear hz;go_wp2_with fail;go_ret;exact ⟨by rw[← HZ.out];rfl,hk4⟩
 ·have d0:((l.length:Int) != (m.length:Int))=true:=by simp;omega
  have d1:(l.length != m.length)=true:=by simp[hlm]
  have hne:decide (l=m)=false:=decide_eq_false (fun e=>hlm (by rw[e]));rw[hne];clear hne hlm;go_enter Try.func53,Try.ntmps53;go_wp2_with fail;go_ret;exact ⟨rfl,(Kp.refl _).alloc _⟩
end Go.Proofs.Ytbhkdlpdolioaaa
