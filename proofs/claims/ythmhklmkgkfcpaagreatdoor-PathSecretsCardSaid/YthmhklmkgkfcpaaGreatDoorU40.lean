import Derived.Test.YthmhklmkgkfcpaaGreatDoorU20
import Derived.Test.YthmhklmkgkfcpaaGreatDoorU22
import Derived.Test.YthmhklmkgkfcpaaGreatDoorU30
import Derived.Test.YthmhklmkgkfcpaaGreatDoorU32
import Derived.Test.YthmhklmkgkfcpaaGreatDoorU35
import Derived.Test.YthmhklmkgkfcpaaGreatDoorU39
import Derived.Lib.SlKeysI
import Derived.Shelf.SlIterI.Nil
import Derived.Ground.GgzProg
import Derived.Test.YthmhklmkgkfcpaaGreatDoorProg
import Derived.Deep.RegionHeld3
set_option linter.unusedVariables false
set_option linter.unusedSimpArgs false
set_option maxHeartbeats 8000000
set_option maxRecDepth 100000
namespace Go.Proofs.YthmhklmkgkfcpaaGreatDoor
open Go.RowKit Go.Maps Go.Sort
open Classical in
noncomputable def aeA (S:Sd→Prop) (x:Int):Sd:=if h:∃ s,S s∧s.node=x then Classical.choose h else ⟨0,[]⟩
theorem amM {S:Sd→Prop}{x:Int}(h:∃ s,S s∧s.node=x):S (aeA S x)∧(aeA S x).node=x:=by
 unfold aeA;rw[dif_pos h];exact Classical.choose_spec h
theorem amN {P:Program}{k:TypeId}{w:World}{m n:Nat}{D:DataW Value}(h:w.ownsMap P k adv m n D)(K:Keyed P k)(hk:P.underlying k=some (.int .i64)):
  (intKeys D).Nodup∧∀ x,x∈intKeys D↔Maps.has D (.int .i64 x)=true:=by
 obtain ⟨es,hD,hpw,_⟩:=h.entries K;obtain ⟨es',hD',hko⟩:=h.keysOf;obtain rfl:es=es':=by rw[hD] at hD';simpa using hD'
 subst hD;have hk2:∀ p∈es,∃ x,p.1=.int .i64 x:=fun p hp=>by
  obtain ⟨v,hv⟩:=hko p hp;obtain ⟨x,_,hx,_⟩:=Maps.keyOf_i64 hk hv;exact ⟨x,hx⟩
 refine ⟨?_,fun x=>?_⟩
 ·show (es.map fun p=>Go.intOf p.1).Nodup
  refine List.pairwise_map.2 (hpw.imp_of_mem fun {p q} hp' hq' hne e=>hne ?_);obtain ⟨a,ha⟩:=hk2 p hp';obtain ⟨b,hb⟩:=hk2 q hq';rw[ha,hb] at e ⊢;exact congrArg _ e
 ·rw[has_eq,List.any_eq_true]
  show x∈es.map (fun p=>Go.intOf p.1)↔_
  rw[List.mem_map];constructor
  ·rintro ⟨p,hp',rfl⟩
   obtain ⟨a,ha⟩:=hk2 p hp';exact ⟨p,hp',by rw[ha];simp[Lit.sameKey,Go.intOf]⟩
  ·rintro ⟨p,hp',hs⟩
   obtain ⟨a,ha⟩:=hk2 p hp';rw[ha] at hs;exact ⟨p,hp',by rw[ha];simpa [Lit.sameKey,Go.intOf] using hs⟩
theorem KM.keys {P:Program}{k:TypeId}{w:World}{m n:Nat}{S:Sd→Prop}(h:KM P k w m n S)(K:Keyed P k)(hk:P.underlying k=some (.int .i64)):
  ∃ D,w.ownsMap P k adv m n D∧Maps.size D≤n∧∀ ss:List Int,ss.Perm (intKeys D)→∃ l:List Sd,srt l∧(∀ y,y∈l↔S y)∧l.map (fun s=>s.node)=ss.mergeSort (fun x y=>decide (x≤y))∧l.length=Maps.size D:=by
 obtain ⟨⟨D,h1,h2,h3⟩,h4⟩:=h;obtain ⟨f1,f2⟩:=amN h1 K hk;have hsz:(intKeys D).length=Maps.size D:=by
  obtain ⟨es,hD,_,_⟩:=h1.entries K;subst hD;show (es.map fun p=>Go.intOf p.1).length=_
  rw[List.length_map];rfl
 refine ⟨D,h1,h1.size_le,fun ss hp=>?_⟩;have hps:(ss.mergeSort (fun x y=>decide (x≤y))).Perm ss:=List.mergeSort_perm ss _;have tr:∀ a b c:Int,leI a b=true→leI b c=true→leI a c=true:=fun a b c h1 h2=>by simp only[leI,decide_eq_true_eq] at *;exact Int.le_trans h1 h2
 have to:∀ a b:Int,(leI a b || leI b a)=true:=fun a b=>by simp only[leI,Bool.or_eq_true,decide_eq_true_eq];exact Int.le_total a b
 have hso:(ss.mergeSort leI).Pairwise fun a b=>leI a b=true:=List.pairwise_mergeSort tr to ss
 generalize hL:ss.mergeSort (fun x y=>decide (x≤y))=L at *;have hso2:L.Pairwise fun a b=>a≤b:=hso.imp fun {a b} h=>by simpa [leI] using h
 have hpD:L.Perm (intKeys D):=hps.trans hp;have hnd:L.Nodup:=hpD.nodup_iff.2 f1;have hlt:L.Pairwise fun a b=>a<b:=(List.Pairwise.and hso2 hnd).imp fun {a b} h=>by
  obtain ⟨h1,h2⟩:=h;have h3:a≠b:=h2;omega
 have hin:∀ x∈L,S (aeA S x)∧(aeA S x).node=x:=fun x hx=>amM ((h2 x).1 ((f2 x).1 (hpD.subset hx)))
 have hmap:(L.map (aeA S)).map (fun s=>s.node)=L:=by
  rw[List.map_map];refine (List.map_congr_left (g:=id) fun x hx=>(hin x hx).2).trans (List.map_id _)
 refine ⟨L.map (aeA S),?_,fun y=>?_,hmap,by rw[List.length_map,hpD.length_eq,hsz]⟩
 ·unfold srt
  refine List.pairwise_map.2 (hlt.imp_of_mem fun {a b} ha hb h=>?_);rw[(hin a ha).2,(hin b hb).2];exact h
 ·rw[List.mem_map]
  constructor
  ·rintro ⟨x,hx,rfl⟩
   exact (hin x hx).1
  ·intro hy
   have hx:y.node∈L:=hpD.symm.subset ((f2 _).2 ((h2 _).2 ⟨y,hy,rfl⟩));obtain ⟨a,b⟩:=hin _ hx;exact ⟨y.node,hx,h4 _ _ a hy b⟩
end Go.Proofs.YthmhklmkgkfcpaaGreatDoor
namespace Go.Proofs.YthmhklmkgkfcpaaGreatDoor
open Go.RowKit
theorem aqU:(Tryz.prog.info? 90).map (·.size)=some 2:=by kernel_rfl
theorem afu {w:World}{g:Nat}{T:TypeId}{a0 a1:Value}(hb:Bx w g T #[a0,a1])(v0 v1:Value):
  Bx ((w.setCell ⟨g,0,none⟩ v0).setCell ⟨g,1,none⟩ v1) g T #[v0,v1]∧Step (fun k=>k=g) w ((w.setCell ⟨g,0,none⟩ v0).setCell ⟨g,1,none⟩ v1)∧∀ w0,Kp w0 w→w0.heap.size≤g→Kp w0 ((w.setCell ⟨g,0,none⟩ v0).setCell ⟨g,1,none⟩ v1):=by
 have h2:=aa0 w g 0 [v0,v1] 0;exact ⟨hb.fill #[v0,v1] rfl,⟨h2.os,h2.tape,h2.output,h2.size,fun q hq hn=>h2.block q hq fun e=>hn (by cases e;rfl)⟩,fun w0 k hg=>k.setCells hg [v0,v1] 0⟩
theorem aem (x:Int)(q vs:Value)(c:List Int)(s:List UInt8)(w:World)(hq:RI w q c)(hs:Rd w vs s)(hl:s.length≤2000):
  Calls Tryz.prog 59 #[.agg #[.int .i64 x,q],vs] w fun e w'=>(∃ v,e=.returned (.agg #[.int .i64 x,v])∧Rd w' v (derB s abR)∧aaN w.heap.size v)∧Kp w w':=by
 have HD:=Lib.hid (fun W (hW:Kp w W)=>ad6 vs ⟨#[110,111,100,101]⟩ s W (hs.kp hW) (by decide) hl);obtain ⟨aq,nq,cq,rfl⟩:=hq.sl;obtain ⟨as',ns',cs',rfl⟩:=aac hs;clear hq hs hl;go_enter Tryz.func59,Tryz.ntmps59;go_wp2_with fail;obtain ⟨w1,hw1⟩:∃ w1,(w.alloc (.cells #[.int .i64 x,.slice aq nq cq] 99)).alloc (.cells #[.int .i64 0,.slice none 0 0] 90)=w1:=⟨_,rfl⟩;have hb:Bx w1 w.heap.size 99 #[.int .i64 x,.slice aq nq cq]:=by rw[← hw1];exact (Bx.new w _ _).kp ((Kp.refl _).alloc _)
 have HRB:Hid (Bx w1 (w.heap.size+1) 90 #[.int .i64 0,.slice none 0 0]):=by
  unfold Hid;have:=Bx.new (w.alloc (.cells #[.int .i64 x,.slice aq nq cq] 99)) 90 #[.int .i64 0,.slice none 0 0];rw[World.size_alloc] at this;rw[← hw1];exact this
 have K1:Hid (Kp w w1):=by unfold Hid;rw[← hw1];exact ((Kp.refl _).alloc _).alloc _
 have HSZ:Hid (w.heap.size+1<w1.heap.size):=(Array.getElem?_eq_some_iff.1 HRB.out).1;have HB:=Lib.hid hb;have e1:=hb.cell 0;simp only[List.getElem?_toArray,List.getElem?_cons_zero,List.getElem?_cons_succ] at e1;rw[hw1];clear hb hw1;go_region_with (first
  | (go_at_call 104;refine (HD.out _ (by first | exact K1.out | exact K1.out.drew)).mono ?_;rintro _ w9 ⟨⟨r9,rfl,o9⟩,k9⟩;have K9:Hid (Kp w1 w9):=(Kp.refl _).drew.trans k9;obtain ⟨a9,n9',c9,rfl⟩:=aac o9.rd;have R9:Hid (Rd w9 (.slice a9 n9' c9) (derB s abR)):=o9.rd;have NW:Hid (aaN w1.heap.size (.slice a9 n9' c9)):=(fun g hg=>(World.ownsRow.lt o9 g hg).1);have e7:=(HB.out.kp K9.out).cell 0;have hth:=(HRB.out.kp K9.out).there;have j0:=(HRB.out.kp K9.out).cell 0;have j1:=(HRB.out.kp K9.out).cell 1;have f0:=(hth 0 (by decide)).2;have f1:=(hth 1 (by decide)).2;clear hth;rw[Nat.zero_add] at f0 f1;simp only[List.getElem?_toArray,List.getElem?_cons_zero,List.getElem?_cons_succ] at e7 j0 j1))
 all_goals (
  clear e1 e7 j0 j1 f0 f1 o9 k9;have hs5:=afu (HRB.out.kp K9.out) (.int .i64 x) (.slice a9 n9' c9);obtain ⟨wz,hwz⟩:∃ y,(w9.setCell ⟨w.heap.size+1,0,none⟩ (.int .i64 x)).setCell ⟨w.heap.size+1,1,none⟩ (.slice a9 n9' c9)=y:=⟨_,rfl⟩;rw[hwz] at hs5 ⊢;have HS5:=Lib.hid hs5;have HFIN:Hid (Rd wz (.slice a9 n9' c9) (derB s abR)):=R9.out.stepF hs5.2.1 (aaX (C:=w1.heap.size) NW.out fun g hg=>by have:=HSZ.out;omega);have KFIN:Hid (Kp w wz):=hs5.2.2 w (K1.out.trans K9.out) (Nat.le_succ _);clear hs5 hwz;go_wp2_with fail;refine bodyPost_ret (results_cell_row (P:=Tryz.prog) rfl _ _ (w.heap.size+1) _ _ (0,0) _ rfl HS5.out.1 Tryz.underlying90 rfl aqU) rfl ?_;exact ⟨⟨_,rfl,HFIN.out,NW.out.mono (by have:=HSZ.out;omega)⟩,KFIN.out⟩)
end Go.Proofs.YthmhklmkgkfcpaaGreatDoor
namespace Go.Proofs.YthmhklmkgkfcpaaGreatDoor
open Go.RowKit Go.Maps
theorem abl:Keyed Tryz.prog 3:=int_keyed Tryz.underlying3
theorem ab5 (w:World):(zeroValue 90).run Tryz.prog w=.ok (.agg #[.int .i64 0,.slice none 0 0]) w:=by kernel_rfl
theorem aiZ (n:Int)(w:World):(Instr.makeMap 103 (some (.int .i64 n))).run Tryz.prog w=.ok (.map (some w.heap.size)) (w.alloc (.map #[] 0)):=by
 simp[Instr.makeMap,run_underlying Tryz.underlying103,asInt,Result.andThen,newObj];rfl
theorem apI {own:List Sd}(h:srt own){j:Nat}(hj:j<own.length)(y:Sd):y∈own.take (j+1)↔(y=sdAt own j∨(y∈own.take j∧y.node≠(sdAt own j).node)):=by
 rw[List.take_succ_eq_append_getElem hj,← abu hj,List.mem_append,List.mem_singleton];have hlt:y∈own.take j→y.node<(sdAt own j).node:=fun hy=>by
  obtain ⟨k,hk,e⟩:=List.getElem_of_mem hy;rw[List.length_take] at hk;have:=List.pairwise_iff_getElem.1 h k j (by omega) hj (by omega);rw[List.getElem_take] at e;rw[abu hj,← e];exact this
 constructor
 ·rintro (h1 | h1)
  ·exact .inr ⟨h1,fun e=>by have:=hlt h1;omega⟩
  ·exact .inl h1
 ·rintro (h1 | h1)
  ·exact .inr h1
  ·exact .inl h1.1
theorem ac0 (v:Value)(own:List Sd)(w:World)(hv:SL w v own)(hs:srt own)(hl:own.length≤100000)(hw:∀ k,k<own.length→-9223372036854775808≤(sdAt own k).node∧(sdAt own k).node≤9223372036854775807):
  Calls Tryz.prog 44 #[v] w fun e w'=>(e=.returned (.map (some w.heap.size))∧KM Tryz.prog 3 w' w.heap.size own.length (fun y=>y∈own))∧Kp w w':=by
 have hmm:=aiZ;have HV:=Lib.hid hv;obtain ⟨a,c,rfl,_,_⟩:=SE.shape hv;have HTS:=Lib.hid (fun j (hj:j<own.length) y=>apI hs hj y);have HWK:=Lib.hid hw;have HTE:Hid (own.take own.length=own):=List.take_length;obtain ⟨N,hN⟩:∃ N,own.length=N:=⟨_,rfl⟩;have HN:=Lib.hid hN;rw[hN] at HV HTS HWK HTE hl ⊢;clear hv hs hw hN;go_enter Tryz.func44,Tryz.ntmps44;go_wp2_with fail;obtain ⟨WB,hWB⟩:∃ WB,w.alloc (.map #[] 0)=WB:=⟨_,rfl⟩;have hm0:KM Tryz.prog 3 WB w.heap.size 0 (fun y=>y∈own.take 0):=by
  rw[← hWB];exact (KM.made w Tryz.prog 3).congr fun s=>by simp
 have hk0:Kp w WB:=by rw[← hWB];exact (Kp.refl _).alloc _
 rw[hWB];clear hWB hmm;have H0:=Lib.hid (And.intro hm0 hk0);clear hm0 hk0;go_loopw[11] (fun x wr=>∃ i:Nat,i≤N∧x=.int .i64 (i:Int)∧KM Tryz.prog 3 wr w.heap.size i (fun y=>y∈own.take i)∧Kp w wr) (fun x _=>(N - (intOf x).toNat))
 case atStart=>exact ⟨0,Nat.zero_le _,rfl,H0.out⟩
 case round=>
  obtain ⟨i,hi,rfl,hm,hkp⟩:=hrel;have HR:=Lib.hid (And.intro hm hkp);by_cases hlt:i<N
  ·obtain ⟨g1,o1,c1,q1,e1,_,hnd⟩:=SL.nodeK (i:=i) HV.out (by rw[HN.out];exact hlt)
   rw[HN.out] at e1;simp only[Value.slice.injEq] at e1;obtain ⟨rfl,_,rfl⟩:=e1;obtain ⟨d0,d1,d2⟩:=hnd wr hkp;obtain ⟨aq,nq,cq,rfl⟩:=aac d2;have D2:=Lib.hid d2;have HT:=Lib.hid (HTS.out i hlt);obtain ⟨k1,k2⟩:=HWK.out i hlt;have i1:IntKind.i64.wrap ((i:Int)+1)=(i:Int)+1:=IntWalk.i64_in _ (by omega);have i3:(i:Int)<(N:Int):=by omega
   generalize hSD:sdAt own i=SD at *;clear hSD;obtain ⟨XN,XS⟩:=SD;dsimp only at d0 d1 D2 HT k1 k2
   have hkey:Go.keyOf Tryz.prog 3 (.int .i64 XN)=some (.int .i64 XN):=keyOf_int_mk Tryz.underlying3 (WalkArith.wf_i64 (by omega));have hn:i<maxLen:=by unfold maxLen;omega
   have HM1:Hid (KM Tryz.prog 3 (wr.alloc (.cells #[.int .i64 XN,.slice aq nq cq] 90)) w.heap.size i (fun y=>y∈own.take i)):=hm.kp ((Kp.refl _).alloc _);have HD1:Hid (SdIn (wr.alloc (.cells #[.int .i64 XN,.slice aq nq cq] 90)) (.agg #[.int .i64 XN,.slice aq nq cq]) ⟨XN,XS⟩):=⟨_,rfl,D2.out.kp ((Kp.refl _).alloc _)⟩;have KA:Hid (Kp w (wr.alloc (.cells #[.int .i64 XN,.slice aq nq cq] 90))):=hkp.alloc _;clear hnd hkp hm d2 HTS HWK HTE k1 k2;go_wp2_with (at_mapUpdate;go_loud (refine agR (e:=90) rfl _ _ _ 103 rfl abl Tryz.underlying103 rfl HM1.out hn ⟨XN,XS⟩ _ rfl rfl hkey HD1.out ?_;intro w1 hown1 hgrow1))
   have hown2:KM Tryz.prog 3 w1 w.heap.size (i+1) (fun y=>y∈own.take (i+1)):=hown1.congr fun y=>HT.out y
   go_roundw
   case rel=>exact ⟨i+1,by omega,by first | rfl | (rw[i1];rfl),hown2,Below.grown KA.out hgrow1 KA.out.size (fun k hk=>by cases hk;exact Nat.le_refl _)⟩
   case measure=>simp[intOf];omega
  ·obtain rfl:i=N:=by omega
   have hle:¬(i:Int)<(i:Int):=by omega
   clear hm hkp HTS HWK;go_wp2_with fail;go_ret;obtain ⟨r2,r3⟩:=HR.out;rw[HTE.out] at r2;exact ⟨⟨rfl,r2⟩,r3⟩
end Go.Proofs.YthmhklmkgkfcpaaGreatDoor
namespace Go.Proofs
open Go.Shelf
def Tryz.keysA_ren:Go.Shelf.Ren:=⟨fun | 7=>108 | 10=>149 | n=>n,fun | 23=>103 | 26=>3 | 3=>90 | 28=>164 | 0=>0 | 27=>163 | 33=>139 | 4=>4 | n=>n,fun | n=>n⟩
theorem Tryz.keysA:Go.Proofs.SlLaysZI.n7 Tryz.prog Tryz.keysA_ren:={
 mixed:=by kernel_rfl
 f7:=⟨Tryz.f108.name,by decide,Tryz.func108.trans (congrArg some (by kernel_rfl))⟩
 f10:=⟨Tryz.f149.name,by decide,Tryz.func149.trans (congrArg some (by kernel_rfl))⟩
 t0:=Tryz.underlying0
 a0:=Tryz.isAgg0
 z0:=Tryz.sizeOf0
 v0:=Tryz.zeroValue0
 t4:=Tryz.underlying4
 a4:=Tryz.isAgg4
 z4:=Tryz.sizeOf4
 v4:=Tryz.zeroValue4
 t23:=Tryz.underlying103
 a23:=Tryz.isAgg103
 z23:=Tryz.sizeOf103
 v23:=Tryz.zeroValue103
 t26:=Tryz.underlying3
 a26:=Tryz.isAgg3
 z26:=Tryz.sizeOf3
 v26:=Tryz.zeroValue3
 t27:=Tryz.underlying163
 a27:=Tryz.isAgg163
 z27:=Tryz.sizeOf163
 v27:=Tryz.zeroValue163
 t28:=Tryz.underlying164
 a28:=Tryz.isAgg164
 z28:=Tryz.sizeOf164
 v28:=Tryz.zeroValue164
 t33:=Tryz.underlying139
 a33:=Tryz.isAgg139
 z33:=Tryz.sizeOf139
 v33:=Tryz.zeroValue139 }
def Tryz.sortedA_ren:Go.Shelf.Ren:=⟨fun | 6=>107 | 8=>147 | 9=>148 | 11=>181 | 13=>183 | 12=>182 | 23=>221 | 24=>222 | 14=>212 | 15=>213 | 16=>214 | 17=>215 | 18=>216 | 19=>217 | 20=>218 | 21=>219 | 22=>220 | 25=>251 | 26=>252 | 27=>253 | 28=>254 | 29=>255 | 30=>256 | 31=>269 | n=>n,fun | 26=>3 | 28=>164 | 24=>34 | 0=>0 | 3=>3 | 37=>205 | 48=>247 | 50=>249 | 4=>4 | 40=>241 | 39=>240 | 45=>143 | 5=>5 | 9=>9 | 51=>270 | 55=>274 | 57=>288 | 58=>69 | 33=>139 | n=>n,fun | n=>n⟩
theorem Tryz.sortedA:Go.Proofs.SlLaysZI.n6 Tryz.prog Tryz.sortedA_ren:={
 mixed:=by kernel_rfl
 f6:=⟨Tryz.f107.name,by decide,Tryz.func107.trans (congrArg some (by kernel_rfl))⟩
 f8:=⟨Tryz.f147.name,by decide,Tryz.func147.trans (congrArg some (by kernel_rfl))⟩
 f11:=⟨Tryz.f181.name,by decide,Tryz.func181.trans (congrArg some (by kernel_rfl))⟩
 t0:=Tryz.underlying0
 a0:=Tryz.isAgg0
 z0:=Tryz.sizeOf0
 v0:=Tryz.zeroValue0
 t24:=Tryz.underlying34
 a24:=Tryz.isAgg34
 z24:=Tryz.sizeOf34
 v24:=Tryz.zeroValue34
 t26:=Tryz.underlying3
 a26:=Tryz.isAgg3
 z26:=Tryz.sizeOf3
 v26:=Tryz.zeroValue3
 t28:=Tryz.underlying164
 a28:=Tryz.isAgg164
 z28:=Tryz.sizeOf164
 v28:=Tryz.zeroValue164
 i26:=by kernel_rfl }
end Go.Proofs
namespace Go.Proofs.YthmhklmkgkfcpaaGreatDoor
open Go.RowKit Go.Maps Go.Sort Go.Shelf
theorem aqV (m:Nat):AnyZI.SortsIn Tryz.prog Tryz.sortedA_ren Fence.wide m:=
 ⟨fun blk off cap ss W hH hblk hsz=>callsIn_wide.2 (Tryz.slices_Sort_int blk off cap ss W hH hblk hsz),
  fun p cap W=>callsIn_wide.2 (Tryz.slices_Sort_int_none p cap W)⟩
theorem amO (m:Nat)(W:World):Calls Tryz.prog 108 #[.map (some m)] W fun e w'=>e=.returned (.func (.func 149) #[] #[.pointer (some ⟨W.heap.size,0,none⟩)])∧w'=W.alloc (.cells #[.map (some m)] 103):=
 callsIn_wide.1 (AnyZI.keys_in Tryz.keysA Fence.wide 5 trivial rfl (some m) W)
theorem aj4 {m n:Nat}{S:Sd→Prop}(w:World)(h:KM Tryz.prog 3 w m n S)(hn:n≤1000000):
  Calls Tryz.prog 107 #[.func (.func 149) #[] #[.pointer (some ⟨w.heap.size,0,none⟩)]] (w.alloc (.cells #[.map (some m)] 103)) fun e w'=>
   (∃ v l,e=.returned v∧srt l∧(∀ y,y∈l↔S y)∧l.length≤n∧OI 3 w' w.heap.size v (l.map (fun s=>s.node)))∧Kp w w':=by
 obtain ⟨D,h1,h2,h3⟩:=h.keys abl Tryz.underlying3;have hbl:=h1.lt;have hseq:SeqGives Fence.wide 2 Tryz.prog 149 #[.pointer (some ⟨w.heap.size,0,none⟩)] encZ (fun ss=>ss.Perm (intKeys D)) (Maps.size D) (w.alloc (.cells #[.map (some m)] 103)):=
  AnyZI.keys_gives (ρ:=Tryz.keysA_ren) { Tryz.keysA with } Fence.wide _ trivial rfl (by omega) w.heap.size m n D _ (by simp) (by simp) (by
   obtain ⟨es,clock,hb,Ft,hs,hD⟩:=h1;exact ⟨es,clock,(Below.heap_alloc _ _ m hbl).trans hb,Ft,hs,hD⟩)
 have cS:=AnyZI.sorted_in Tryz.sortedA Fence.wide 5 trivial trivial trivial trivial rfl (by omega) (aqV _) (enters_of Tryz.func148 (by kernel_rfl) rfl) 149 #[.pointer (some ⟨w.heap.size,0,none⟩)] trivial (enters_of Tryz.func149 (by kernel_rfl) rfl) _ _ (by unfold maxLen;omega) (by omega) _ hseq;change CallsIn _ _ Tryz.prog 107 _ _ _ at cS;refine (callsIn_wide.1 cS).mono ?_;rintro e w' ⟨v,ss,rfl,hS,hrow,_,hb⟩;obtain ⟨l,l1,l2,l3,l4⟩:=h3 ss hS;have k1:Kp w w':=((Kp.refl w).alloc _).trans hb;refine ⟨⟨v,l,rfl,l1,l2,by omega,?_⟩,k1⟩;have hl:(l.map (fun s=>s.node)).length=ss.length:=by rw[l3,List.length_mergeSort]
 unfold OI;rw[List.length_map,hl,l3];exact ⟨hrow.1,hrow.2.imp id fun ⟨g,cap,cur,e1,e2,rest⟩=>⟨g,cap,cur,e1,by rw[World.size_alloc] at e2;omega,rest⟩⟩
end Go.Proofs.YthmhklmkgkfcpaaGreatDoor
namespace Go.Proofs.YthmhklmkgkfcpaaGreatDoor
open Go.RowKit Go.Maps
theorem adB (x:Int)(a:Option Addr)(n c:Nat)(w:World):(Instr.field 90 (.agg #[.int .i64 x,.slice a n c]) 1).run Tryz.prog w=.ok (.slice a n c) w:=by kernel_rfl
theorem aqW {l:List Sd}{k:Nat}(h:k<l.length):l.take (k+1)=l.take k++[sdAt l k]:=by
 rw[List.take_succ_eq_append_getElem h,← abu h]
theorem aen {m n:Nat}{S:Sd→Prop}(w:World)(h:KM Tryz.prog 3 w m n S)(hn:n≤100000)(hwf:∀ s,S s→-9223372036854775808≤s.node∧s.node≤9223372036854775807)(hsl:∀ s,S s→s.seed.length≤2000):
  Calls Tryz.prog 61 #[.map (some m)] w fun e w'=>(∃ v l,e=.returned v∧srt l∧(∀ y,y∈l↔S y)∧GZ shSd 90 (fun g=>g<w.heap.size) w' w.heap.size v l)∧Kp w w':=by
 have HK:=Lib.hid (fun W=>amO m W);have HSO:=Lib.hid (aj4 w h (by omega));have HM:=Lib.hid h;have HCL:=Lib.hid (fun W (v:Value) (l:List UInt8) (hv:Rd W v l) (hl:l.length≤2000)=>agB v l W hv (by omega));have HWF:=Lib.hid hwf;have HSL:=Lib.hid hsl;clear h hwf hsl;go_enter Tryz.func61,Tryz.ntmps61;go_wp2_with fail;refine (HK.out w).mono ?_;rintro _ _ ⟨rfl,rfl⟩;go_wp2_with fail;refine HSO.out.mono ?_;rintro _ w1 ⟨⟨v1,l,rfl,hs,hmem,hln,ho⟩,k1⟩;obtain ⟨a1,c1,rfl,p1,s1⟩:=ho.ri.shape;rw[List.length_map] at *;have HO:=Lib.hid (And.intro ho k1);have HMEM:=Lib.hid hmem;have HS:=Lib.hid hs;obtain ⟨N,hN⟩:∃ N,l.length=N:=⟨_,rfl⟩;have HTA:=Lib.hid (fun k (h:k<l.length)=>aqW h);have HTE:Hid (l.take l.length=l):=List.take_length;have HIN:Hid (∀ k,k<l.length→S (sdAt l k)∧(l.map (fun s=>s.node)).getD k 0=(sdAt l k).node):=fun k hk=>⟨(hmem _).1 (aeV hk),by
  rw[List.getD_eq_getElem?_getD,List.getElem?_map,List.getElem?_eq_getElem hk,abu hk];rfl⟩
 rw[hN] at HTA HTE HIN hln p1 HO ⊢;clear ho k1 hmem hs hN HSO HK;go_wp2_with fail;go_loopw[3,10] (fun x y wr=>∃ j:Nat,j≤N∧y=.int .i64 (j:Int)∧GZ shSd 90 (fun g=>g<w1.heap.size) wr w1.heap.size x (l.take j)∧Kp w1 wr) (fun _ y _=>(N - (intOf y).toNat))
 case atStart=>exact ⟨0,Nat.zero_le _,rfl,by rw[List.take_zero];exact GZ.nil _ _ _,Kp.refl _⟩
 case round=>
  obtain ⟨j,hj,rfl,hgz,hkp⟩:=hrel;have HI:=Lib.hid (And.intro hgz hkp);obtain ⟨ax,nx,cx,rfl⟩:=SE.sl hgz.gl;clear hgz hkp;by_cases hlt:j<N
  ·obtain ⟨gq,oq,rfl,_,hcq⟩:=(HO.out.1.ri.kp HI.out.2).at j hlt
   have c0:=hcq j hlt;obtain ⟨q1,q2⟩:=HIN.out j hlt;rw[q2] at c0;have HTJ:=Lib.hid (HTA.out j hlt);obtain ⟨w1',w2'⟩:=HWF.out _ q1;have HSLJ:=Lib.hid (HSL.out _ q1);obtain ⟨XN,XS⟩:Sd:=sdAt l j;generalize hSD:sdAt l j=SD at *;obtain ⟨XN,XS⟩:=SD;dsimp only at c0 w1' w2' HSLJ q2
   have hkey:Go.keyOf Tryz.prog 3 (.int .i64 XN)=some (.int .i64 XN):=keyOf_int_mk Tryz.underlying3 (WalkArith.wf_i64 (by omega));have i1:IntKind.i64.wrap ((j:Int)+1)=(j:Int)+1:=IntWalk.i64_in _ (by omega);have i3:(j:Int)<(N:Int):=by omega
   have HMR:Hid (KM Tryz.prog 3 wr m n S):=HM.out.kp (HO.out.2.trans HI.out.2);have zs:=ab5 wr;have hfd:=adB XN;have HTL:Hid ((l.take j).length+1≤1000000):=by unfold Hid;rw[List.length_take];omega
   generalize l.take j=TK at *;clear hcq HTA HIN HWF HSL hSD q2;go_wp2_with (at_lookup;go_loud (refine aiK (e:=90) rfl _ _ 103 rfl abl Tryz.underlying103 zs rfl HMR.out ⟨XN,XS⟩ q1 rfl hkey ?_;intro q hq;obtain ⟨aq,nq,cq9,rfl⟩:=aac hq;dsimp only [sdV]))
   refine (HCL.out wr _ XS hq HSLJ.out).mono ?_;rintro _ w5 ⟨vB,rfl,oB,kB⟩;obtain ⟨aB,nB,cB,rfl⟩:=aac oB.rd;have HLT:Hid (∀ g,(Value.slice ax nx cx).ownBlock=some g→g<wr.heap.size):=fun g hg=>(HI.out.1.lt g hg).2
   have HEL:Hid (shSd.R (fun g=>some g=(Value.slice ax nx cx).ownBlock∨g<w1.heap.size) w5 [.int .i64 XN,.slice aB nB cB] ⟨XN,XS⟩):=
    ⟨_,rfl,oB.rd,aaX (C:=wr.heap.size) (fun g hg=>(World.ownsRow.lt oB g hg).1) fun g hg=>hg.elim (fun h=>HLT.out g h.symm) fun h=>by have:=HI.out.2.size;omega⟩
   have HG5:=Lib.hid (HI.out.1.kp kB);have KB:=Lib.hid (HI.out.2.trans kB);clear hq oB kB zs c0;go_wp2_with (at_builtin;go_loud (refine aa5 (S:=shSd) (Z:=fun g=>g<w1.heap.size) (o:=⟨some 23,_,_,_,_,_⟩) sdK rfl _ _ rfl w1.heap.size _ TK rfl (HG5.out.kp ((Kp.refl _).alloc _)) _ [_] rfl (SE.litZ (S:=shSd) 90 HEL.out rfl) (by exact HTL.out) (Nat.le_trans KB.out.size (by simp)) ?_;intro vF wh oh gh _;have kF:Hid (Kp w1 wh):=Kp.grown (KB.out.alloc _) gh (fun k hk=>(HI.out.1.lt k hk).1)))
   rw[← HTJ.out] at oh;go_roundw
   case rel=>exact ⟨j+1,by omega,by first | rfl | (rw[i1];rfl),oh,kF.out⟩
   case measure=>simp[intOf];omega
  ·obtain rfl:j=N:=by omega
   have h1:¬(j:Int)<(j:Int):=by omega
   have hgz:=HI.out.1;rw[HTE.out] at hgz;have HF:=Lib.hid (And.intro ((hgz.solidly fun g hg=>.inr (.inl (show g<w1.heap.size from Nat.lt_of_lt_of_le hg HO.out.2.size))).mono HO.out.2.size) (HO.out.2.trans HI.out.2));clear hgz HTA HIN;go_wp2_with fail;go_ret;exact ⟨⟨_,rfl,l,HS.out,HMEM.out,HF.out.1⟩,HF.out.2⟩
end Go.Proofs.YthmhklmkgkfcpaaGreatDoor
namespace Go.Proofs.YthmhklmkgkfcpaaGreatDoor
open Go.RowKit
structure abD (w:World)(gc gs:Nat)(secret:List UInt8)(n:Nat):Prop where
 mk ::
 cnt:Bx w gc 3 #[.int .i64 (n:Int)]
 sec:∃ v,Bx w gs 24 #[v]∧RZ (fun g=>g=gc) w v secret
 ne:gc≠gs
theorem abD.kp {w w':World}{gc gs n:Nat}{s:List UInt8}(h:abD w gc gs s n)(k:Kp w w'):abD w' gc gs s n:=by
 obtain ⟨h1,⟨v,h2,h3⟩,h4⟩:=h;exact ⟨h1.kp k,⟨v,h2.kp k,h3.kp k⟩,h4⟩
theorem ai1 (gc gs n:Nat)(secret:List UInt8)(w:World)(h:abD w gc gs secret n)(hn:n<1000000)(hl:secret.length≤2000):
  Calls Tryz.prog 99 #[.pointer (some ⟨gc,0,none⟩),.pointer (some ⟨gs,0,none⟩)] w fun e w'=>(∃ v,e=.returned v∧Rd w' v (ac6 secret n)∧aaN w.heap.size v)∧abD w' gc gs secret (n+1)∧Step (fun g=>g=gc) w w':=by
 obtain ⟨hc,⟨v,hb,hz⟩,hne⟩:=h;have HNU:=Lib.hid (fun W=>aeq (n:Int) 4 W (by omega));rw[numB4 (by omega)] at HNU;have HLA:=Lib.hid (fun W (vc:Value) (hv:Rd W v secret) (hc:Rd W vc (be 4 n))=>aeO v ⟨#[111,110,99,101]⟩ vc secret (be 4 n) 32 W hv hc (by decide) (by rw[aak];omega) hl (by omega));obtain ⟨as',ns',cs',rfl⟩:=aac hz.1;have HC:=Lib.hid hc;have HB:=Lib.hid hb;have HZ:=Lib.hid hz;have c0:=hc.cell 0;simp only[List.getElem?_toArray,List.getElem?_cons_zero] at c0;have i1:IntKind.i64.wrap ((n:Int)+1)=((n+1:Nat):Int):=by rw[IntWalk.i64_in _ (by omega)];omega
 generalize numE (n:Int) 4=NE at *;have hgl:Hid (gc<w.heap.size∧gs<w.heap.size):=⟨(Array.getElem?_eq_some_iff.1 hc).1,(Array.getElem?_eq_some_iff.1 hb).1⟩;clear hc hb hz hl;go_enter Tryz.func99,Tryz.ntmps99;go_wp2_with fail;refine (HNU.out w).mono ?_;rintro _ w1 ⟨v1,rfl,o1,k1⟩;obtain ⟨a1,n1,c1,rfl⟩:=aac o1.rd;have O1:=Lib.hid (And.intro o1 k1);have hc1:=HC.out.kp k1;have d0:=hc1.cell 0;have d1:=hc1.frozen 0;simp only[List.getElem?_toArray,List.getElem?_cons_zero] at d0;obtain ⟨w2,hw2⟩:∃ x,w1.setCell ⟨gc,0,none⟩ (.int .i64 ((n:Int)+1))=x:=⟨_,rfl⟩;have hst:Step (fun g=>g=gc) w1 w2:=by rw[← hw2];exact (Step.refl _ _).setCell _ _ (.inr rfl)
 have hb1:=(HB.out.kp k1).cell 0;simp only[List.getElem?_toArray,List.getElem?_cons_zero] at hb1;have e2:(w1.setCell ⟨gc,0,none⟩ (.int .i64 ((n:Int)+1))).cell? ⟨gs,0,none⟩=some (.slice as' ns' cs'):=by rw[hw2];exact hst.cell hb1 (fun e=>hne e.symm)
 have HC2:Hid (Bx w2 gc 3 #[.int .i64 ((n+1:Nat):Int)]):=by
  unfold Hid;rw[← hw2,show ((n+1:Nat):Int)=(n:Int)+1 by omega];exact hc1.set 0 (.int .i64 ((n:Int)+1))
 have HB2:Hid (Bx w2 gs 24 #[.slice as' ns' cs']):=(hst.block gs (by have:=hgl.out;have:=k1.size;omega) (fun e=>hne e.symm)).trans (HB.out.kp k1);have HZ2:=Lib.hid ((HZ.out.kp k1).step hst);have HS2:=Lib.hid (And.intro hst k1);have HW2:=Lib.hid hw2;have HNZ:Hid (Rd w2 (.slice a1 n1 c1) (be 4 n)):=O1.out.1.rd.stepF hst (aaX (C:=w.heap.size) (fun g hg=>(World.ownsRow.lt O1.out.1 g hg).1) fun g hg=>by have:=hgl.out;omega);clear o1 k1 HNU c0 hst hw2 hb1 hc1 HB HZ HC;go_wp2_with fail;rw[HW2.out];refine (HLA.out w2 _ HZ2.out.1 HNZ.out).mono ?_;rintro _ w3 ⟨⟨v3,rfl,o3⟩,k3⟩;obtain ⟨a3,n3,c3,rfl⟩:=aac o3.rd;have HF:Hid (((∃ v,Ending.returned (.slice a3 n3 c3)=.returned v∧Rd w3 v (ac6 secret n)∧aaN w.heap.size v)∧abD w3 gc gs secret (n+1)∧Step (fun g=>g=gc) w w3)):=
  ⟨⟨_,rfl,o3.rd,fun g hg=>Nat.le_trans (Nat.le_trans HS2.out.2.size HS2.out.1.size) (World.ownsRow.lt o3 g hg).1⟩,abD.kp ⟨HC2.out,⟨_,HB2.out,HZ2.out⟩,hne⟩ k3,
   ⟨k3.os.trans (HS2.out.1.os.trans HS2.out.2.os),k3.tape.trans (HS2.out.1.tape.trans HS2.out.2.tape),k3.output.trans (HS2.out.1.output.trans HS2.out.2.output),Nat.le_trans HS2.out.2.size (Nat.le_trans HS2.out.1.size k3.size),fun q hq hn=>by
    have q1:q<w1.heap.size:=Nat.lt_of_lt_of_le hq HS2.out.2.size;exact (k3.block q (Nat.lt_of_lt_of_le q1 HS2.out.1.size)).trans ((HS2.out.1.block q q1 hn).trans (HS2.out.2.block q hq))⟩⟩
 clear o3 k3 e2 HLA;go_wp2_with fail;go_ret;exact HF.out
theorem ahB (v:Value)(secret:List UInt8)(w:World)(hv:Rd w v secret):
  Calls Tryz.prog 57 #[v] w fun e w'=>(e=.returned (.func (.func 99) #[] #[.pointer (some ⟨w.heap.size+1,0,none⟩),.pointer (some ⟨w.heap.size,0,none⟩)])∧abD w' (w.heap.size+1) w.heap.size secret 0)∧Kp w w':=by
 have HV:=Lib.hid hv;obtain ⟨a,n,c,rfl⟩:=aac hv;clear hv;go_enter Tryz.func57,Tryz.ntmps57;go_wp2_with fail;go_ret;refine ⟨⟨rfl,?_,⟨_,(Bx.new w _ _).kp ((Kp.refl _).alloc _),HV.out.kp (((Kp.refl _).alloc _).alloc _),aeX (w:=w) HV.out.inside fun g hg=>by omega⟩,by omega⟩,((Kp.refl _).alloc _).alloc _⟩;have:=Bx.new (w.alloc (.cells #[.slice a n c] 24)) 3 #[.int .i64 0];rw[World.size_alloc] at this;exact this
end Go.Proofs.YthmhklmkgkfcpaaGreatDoor
namespace Go.Proofs.YthmhklmkgkfcpaaGreatDoor
open Go.RowKit Go.Maps
theorem amS {own:List Sd}(h:srt own){s:Sd}(hs:s∈own):abe own s.node=s.seed:=by
 induction own with
 | nil=>cases hs
 | cons a l ih=>
  unfold abe
  rcases List.mem_cons.1 hs with e | e
  ·rw[e,if_pos rfl]
  ·have:=(List.pairwise_cons.1 h).1 s e
   rw[if_neg (by omega)]
   exact ih (List.pairwise_cons.1 h).2 e
theorem ak6 {own:List Sd}{x:Int}(h:∀ s∈own,s.node≠x):abe own x=[]:=by
 induction own with
 | nil=>rfl
 | cons a l ih=>
  unfold abe
  rw[if_neg (h a (by simp))]
  exact ih fun s hs=>h s (by simp[hs])
theorem afw (arO n s x y vi:Value)(t:List Nod)(K i k m cnt:Nat)(own:List Sd)(info:List UInt8)(p:Pa)(w:World)(hu:WIn w arO n s t K i)(hm:KM Tryz.prog 3 w m cnt (fun y=>y∈own))(hsr:srt own)(h32:∀ s∈own,s.seed.length=32)(hi:Rd w vi info)(hp:PIn w x y p)
  (hk:k<(ixS t i K).length) (hpl:p.step.length=(ixS t i K).length) (hfl:(stAt p.step k).fors.length=((whoN t i K).getD k []).length) (hcv:∀ j,j<((whoN t i K).getD k []).length→0≤((whoN t i K).getD k []).getD j 0∧((whoN t i K).getD k []).getD j 0≤1000000) (hil:info.length≤1400) (hbl:∀ j,(seAt (stAt p.step k).fors j).b.length≤1600):
  Calls Tryz.prog 70 #[.agg #[arO,.int .i64 (i:Int),n,s],.int .i64 (k:Int),.map (some m),vi,.agg #[x,y]] w fun e w'=>
   (∃ r,e=.returned (.tuple #[r,.int .i64 (aa8 own info ((whoN t i K).getD k []) (stAt p.step k).fors).2])∧Rd w' r (aa8 own info ((whoN t i K).getD k []) (stAt p.step k).fors).1)∧Kp w w':=by
 obtain ⟨gs,os,cs,q,e1,_,c0,c1,rq⟩:=arM.sp (i:=k) hu.steps (by rw[abU];exact hk);rw[aey hk] at rq c0;dsimp only at rq c0
 obtain ⟨gp,op,cp',pv,qv,e2,_,hnd⟩:=TL11.nodeK (i:=k) hp.step (by rw[hpl];exact hk);obtain ⟨d0,d1,rp,rf⟩:=hnd w (Kp.refl _);have hlen:=abU t i K;rw[hlen] at e1;rw[hpl] at e2;subst e1 e2;generalize (whoN t i K).getD k []=who at *;generalize (aaa t i K).getD k 0=X at *;generalize (ixS t i K).length=M at *;generalize (stAt p.step k).fors=FS at *;have HHIT:=Lib.hid (fun j hj hp h=>show aa8 own info who FS=amF (abe own (who.getD j 0)) info (seAt FS j).half (seAt FS j).b from aov (own:=own) (info:=info) (who:=who) (f:=FS) (k:=j) hj hfl hp h);have HNONE:=Lib.hid (fun hp=>amR (own:=own) (info:=info) (who:=who) (f:=FS) hp);have HFM:=Lib.hid (fun s (hs:s∈own)=>And.intro (amS hsr hs) (h32 s hs));have HFN:=Lib.hid (fun x (h:∀ s∈own,s.node≠x)=>ak6 h);have HOP:=Lib.hid (fun W (v x y:Value) (seed half b:List UInt8) (hW:Kp w W) (h1:Rd W v seed) (h2:Rd W x half) (h3:Rd W y b) hb=>ahv v vi x y seed info half b W h1 (hi.kp hW) h2 h3 hil hb);have HM:=Lib.hid hm;have HRQ:=Lib.hid rq;have HRF:=Lib.hid rf;have HCV:=Lib.hid hcv;have HBL:=Lib.hid hbl;have HC:=Lib.hid (fun W (hW:Kp w W)=>And.intro (hW.cell c1) (hW.cell d1));obtain ⟨au,nu,cu,rfl⟩:=hu.tree.sl;obtain ⟨an,nn,cn,rfl⟩:=hu.nodes.sl;obtain ⟨ax,nx,cx,rfl⟩:=aac hp.pub;obtain ⟨ai,ni,ci,rfl⟩:=aac hi;obtain ⟨aq,cq,rfl,p1,s1⟩:=rq.shape;obtain ⟨af,cf,rfl,arL,s3⟩:=SE.shape rf;generalize aa8 own info who FS=OUT at *;obtain ⟨N,hN⟩:∃ N,who.length=N:=⟨_,rfl⟩;rw[hfl] at arL;rw[hN] at p1 arL HRQ HHIT HNONE HCV;have HFL:Hid (FS.length=N):=hfl.trans hN;have i0:¬(k:Int)<0:=by omega
 have i3:(k:Int)<(M:Int):=by omega
 clear hu hm hsr h32 hi hp hpl hcv hil hbl hnd rp rf rq c0 c1 d0 d1 hlen;rw[hfl,hN] at HRF HC;unfold maxLen at s1;clear hfl hN;go_enter Tryz.func70,Tryz.ntmps70;have e9:(w.alloc (.cells #[.slice au nu cu,.int .i64 (i:Int),.slice an nn cn,.slice (some ⟨gs,os,none⟩) M cs] 95)).heap.size=w.heap.size+1:=World.size_alloc _ _;obtain ⟨w1,hw1⟩:∃ w1,(w.alloc (.cells #[.slice au nu cu,.int .i64 (i:Int),.slice an nn cn,.slice (some ⟨gs,os,none⟩) M cs] 95)).alloc (.cells #[.slice ax nx cx,.slice (some ⟨gp,op,none⟩) M cp'] 27)=w1:=⟨_,rfl⟩;have K1:Hid (Kp w w1):=by unfold Hid;rw[← hw1];exact ((Kp.refl _).alloc _).alloc _
 have HB:Hid (Bx w1 (w.heap.size+1) 27 #[.slice ax nx cx,.slice (some ⟨gp,op,none⟩) M cp']):=by
  unfold Hid;have:=Bx.new (w.alloc (.cells #[.slice au nu cu,.int .i64 (i:Int),.slice an nn cn,.slice (some ⟨gs,os,none⟩) M cs] 95)) 27 #[.slice ax nx cx,.slice (some ⟨gp,op,none⟩) M cp'];rw[e9] at this;rw[← hw1];exact this
 have c3:=(HC.out ((w.alloc (.cells #[.slice au nu cu,.int .i64 (i:Int),.slice an nn cn,.slice (some ⟨gs,os,none⟩) M cs] 95)).alloc (.cells #[.slice ax nx cx,.slice (some ⟨gp,op,none⟩) M cp'] 27)) (by rw[hw1];exact K1.out)).1;have HW1:=Lib.hid hw1;clear hw1 e9;go_wp2_with fail;rw[HW1.out];clear HW1 c3;go_loopw[25] (fun x wr=>∃ j:Nat,j≤N∧x=.int .i64 (j:Int)∧(∀ z,z<j→(abe own (who.getD z 0)).length=0)∧Kp w1 wr) (fun x _=>(N - (intOf x).toNat))
 case atStart=>exact ⟨0,Nat.zero_le _,rfl,fun z h=>by omega,Kp.refl _⟩
 case round=>
  obtain ⟨j,hj,rfl,hpre,hkp⟩:=hrel;have HPR:=Lib.hid hpre;have KK:=Lib.hid hkp;clear hpre hkp;by_cases hlt:j<N
  ·obtain ⟨gq,oq,rfl,_,hcq⟩:=(HRQ.out.kp (K1.out.trans KK.out)).at j hlt
   have cq0:=hcq j hlt;have hv12:=HCV.out j hlt;obtain ⟨X,hX⟩:∃ X,who.getD j 0=X:=⟨_,rfl⟩;rw[hX] at cq0 hv12;obtain ⟨v1,v2⟩:=hv12;have i1:IntKind.i64.wrap ((j:Int)+1)=(j:Int)+1:=IntWalk.i64_in _ (by omega);have i4:(j:Int)<(N:Int):=by omega
   have hkey:Go.keyOf Tryz.prog 3 (.int .i64 X)=some (.int .i64 X):=keyOf_int_mk Tryz.underlying3 (WalkArith.wf_i64 (by omega));have HMR:Hid (KM Tryz.prog 3 wr m cnt (fun y=>y∈own)):=HM.out.kp (K1.out.trans KK.out);by_cases hin:∃ s∈own,s.node=X
   ·obtain ⟨⟨SN,SS⟩,hs1,hs2⟩:=hin
    dsimp only at hs2
    obtain ⟨f1,f2⟩:=HFM.out ⟨SN,SS⟩ hs1;dsimp only at f1 f2
    obtain ⟨gf,of,cf2,ph,pb,e3,_,hndf⟩:=EL.nodeK (i:=j) HRF.out (by rw[HFL.out];exact hlt);rw[HFL.out] at e3;simp only[Value.slice.injEq] at e3;obtain ⟨rfl,_,rfl⟩:=e3;have HX:Hid (OUT=amF SS info (seAt FS j).half (seAt FS j).b):=by
     have:=HHIT.out j hlt HPR.out (by rw[hX,← hs2,f1,f2];decide);rw[hX,← hs2,f1] at this;exact this
    have HNF:=Lib.hid hndf;have HBJ:=Lib.hid (HBL.out j);have HOPJ:=Lib.hid (fun W (hW:Kp wr W) (q:Value) (hq:Rd wr q SS)=>HOP.out W q ph pb SS (seAt FS j).half (seAt FS j).b ((K1.out.trans KK.out).trans hW) (hq.kp hW) (HNF.out W ((K1.out.trans KK.out).trans hW)).2.2.1 (HNF.out W ((K1.out.trans KK.out).trans hW)).2.2.2 HBJ.out);rw[← HX.out] at HOPJ;obtain ⟨ah,nh,ch,rfl⟩:=aac (HNF.out w (Kp.refl _)).2.2.1;obtain ⟨ab,nb,cb,rfl⟩:=aac (HNF.out w (Kp.refl _)).2.2.2;have HCELL:=Lib.hid (fun W (hW:Kp wr W)=>And.intro ((HB.out.kp (KK.out.trans hW)).cell 1) (And.intro (HC.out W ((K1.out.trans KK.out).trans hW)).2 (And.intro (HNF.out W ((K1.out.trans KK.out).trans hW)).1 (HNF.out W ((K1.out.trans KK.out).trans hW)).2.1)));have KFIN:Hid (Kp w wr):=K1.out.trans KK.out;have zs:=ab5 wr;subst hs2;clear hX HX HHIT HNONE HOP HCV HBL HFM HFN hcq HPR f1 f2 hndf;go_wp2_with (at_lookup;go_loud (refine aeW (e:=90) rfl _ _ 103 rfl abl Tryz.underlying103 zs rfl HMR.out ⟨SN,SS⟩ hs1 rfl hkey ?_;intro q hq;obtain ⟨aq,nq,cq9,rfl⟩:=aac hq;dsimp only [sdV]))
    obtain ⟨WQ,hWQ⟩:∃ x,wr.alloc (.cells #[.int .i64 SN,.slice aq nq cq9] 90)=x:=⟨_,rfl⟩;have KQ:Hid (Kp wr WQ):=by unfold Hid;rw[← hWQ];exact (Kp.refl _).alloc _
    have cs1:WQ.cell? ⟨wr.heap.size,1,none⟩=some (.slice aq nq cq9):=by
     have:=(Bx.new wr 90 #[.int .i64 SN,.slice aq nq cq9]).cell 1;rw[← hWQ];simp
    obtain ⟨cp1,ce1,cf1,cf2⟩:=HCELL.out WQ KQ.out;simp only[List.getElem?_toArray,List.getElem?_cons_zero,List.getElem?_cons_succ] at cp1;have HQ:=Lib.hid hq;rw[hWQ];clear hWQ HCELL hq zs hkey cq0 hs1;go_region_with (first
     | (go_at_call 120;refine (HOPJ.out _ (by first | exact KQ.out | exact KQ.out.drew) _ HQ.out).mono ?_;rintro _ w9 ⟨⟨r9,rfl,o9⟩,k9⟩;obtain ⟨a9,n9',c9',rfl⟩:=aac o9;have HF9:Hid (Rd w9 (.slice a9 n9' c9') OUT.1∧Kp w w9):=⟨o9,(KFIN.out.trans (by first | exact KQ.out | exact KQ.out.drew)).trans k9⟩))
    all_goals (
     go_wp2_with fail;go_ret2;exact ⟨⟨_,rfl,HF9.out.1⟩,HF9.out.2⟩)
   ·have hno:∀ s∈own,s.node≠X:=fun s h e=>hin ⟨s,h,e⟩
    have HP:Hid (∀ z,z<j+1→(abe own (who.getD z 0)).length=0):=fun z hz=>by
     rcases Nat.lt_or_eq_of_le (Nat.lt_succ_iff.1 hz) with h3 | h3
     ·exact HPR.out z h3
     ·rw[h3,hX,HFN.out X hno];rfl
    have zs:=ab5 wr;clear hX HHIT HNONE HOP HCV HBL HFM HFN hcq HPR hin;go_wp2_with (at_lookup;go_loud (refine afJ (e:=90) rfl _ _ 103 rfl abl Tryz.underlying103 zs rfl HMR.out X hno rfl hkey ?_))
    go_roundw
    case rel=>exact ⟨j+1,by omega,by first | rfl | (rw[i1];rfl),HP.out,KK.out.alloc _⟩
    case measure=>simp[intOf];omega
  ·obtain rfl:j=N:=by omega
   have h1:¬(j:Int)<(j:Int):=by omega
   have HX:=Lib.hid (HNONE.out HPR.out);have HF:Hid ((∃ r,Ending.returned (.tuple #[Value.slice none 0 0,.int .i64 5])=.returned (.tuple #[r,.int .i64 OUT.2])∧Rd wr r OUT.1)∧Kp w wr):=by rw[HX.out];exact ⟨⟨_,rfl,aaP _⟩,K1.out.trans KK.out⟩
   clear HX HNONE HHIT HOP HCV HBL;go_wp2_with fail;go_ret2;exact HF.out
end Go.Proofs.YthmhklmkgkfcpaaGreatDoor
