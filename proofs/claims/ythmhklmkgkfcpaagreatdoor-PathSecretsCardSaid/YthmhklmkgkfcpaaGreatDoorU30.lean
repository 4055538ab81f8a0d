import Derived.Test.YthmhklmkgkfcpaaGreatDoorU19
import Derived.Test.YthmhklmkgkfcpaaGreatDoorU22
import Derived.Test.YthmhklmkgkfcpaaGreatDoorU26
import Derived.Test.YthmhklmkgkfcpaaGreatDoorU28
set_option linter.unusedVariables false
set_option linter.unusedSimpArgs false
set_option maxHeartbeats 8000000
set_option maxRecDepth 100000
namespace Go.Proofs.YthmhklmkgkfcpaaGreatDoor
open Go.RowKit
theorem amh {l m:List Sd}(hl:srt l)(hm:srt m)(h:∀ s,s∈l↔s∈m):l=m:=by
 have nd:∀ {l:List Sd},srt l→l.Nodup:=fun {l} hl=>hl.imp fun {a b} hab e=>by subst e;omega
 have hp:l.Perm m:=(List.perm_ext_iff_of_nodup (nd hl) (nd hm)).2 h;have h1:l.Pairwise fun a b=>a.node<b.node:=hl
 have h2:m.Pairwise fun a b=>a.node<b.node:=hm
 exact List.Perm.eq_of_pairwise (le:=fun a b:Sd=>a.node<b.node) (fun a b _ _ h3 h4=>absurd h3 (by omega)) h1 h2 hp
def acZ (s:List UInt8)(n:Nat):List (List UInt8):=(List.range n).map (secS s)
theorem aci (s:List UInt8)(n:Nat):(acZ s n).length=n:=by unfold acZ;simp
theorem ami (s:List UInt8)(n:Nat):acZ s (n+1)=acZ s n++[secS s n]:=by
 unfold acZ;rw[List.range_succ,List.map_append];rfl
theorem aiH (s:List UInt8){n k:Nat}(h:k<n):(acZ s n).getD k []=secS s k:=by
 unfold acZ;rw[List.getD_eq_getElem?_getD,List.getElem?_map,List.getElem?_range h];rfl
theorem amj (s:List UInt8){n m:Nat}(h:m≤n):(acZ s n).take m=acZ s m:=by
 unfold acZ;rw[← List.map_take,List.take_range,Nat.min_eq_left h]
theorem aph {K i me j:Nat}(hK:K≤10)(hi:i<2 ^ K)(hm:me<2 ^ K):me / 2 ^ j=i / 2 ^ j↔meet i me≤j:=by
 obtain ⟨h1,h2,h3⟩:=aja hK hi hm;constructor
 ·intro h
  exact Nat.le_of_not_lt fun hlt=>h3 j hlt h.symm
 ·intro h
  obtain ⟨d,rfl⟩:=Nat.exists_eq_add_of_le h;rw[Nat.pow_add,← Nat.div_div_eq_div_mul,← Nat.div_div_eq_div_mul,h2]
theorem api {t:List Nod}{K i me:Nat}(hK:K≤10)(hi:i<2 ^ K)(hm:me<2 ^ K)(hne:i≠me)(hw:0<(whoF t i (meet i me - 1)).length){a k:Nat}(hk:(ixS t i K)[a]?=some k):
  me / 2 ^ (k+1)=i / 2 ^ (k+1)↔kM t i me≤a:=by
 obtain ⟨m1,m2,_,_⟩:=ac8 hK hi hm hne;rw[aph hK hi hm];obtain ⟨rest,e⟩:=agM t i _ hw K (by omega);unfold kM;constructor
 ·intro h
  refine Nat.le_of_not_lt fun hlt=>?_
  rw[e,List.getElem?_append_left hlt] at hk;have:=als t i _ k (List.mem_of_getElem? hk);omega
 ·intro h
  rw[e,List.getElem?_append_right h] at hk;have hr:=af9 t i K;rw[e] at hr;have h2:=(List.pairwise_append.1 hr).2.1;rcases List.mem_cons.1 (List.mem_of_getElem? hk) with e3 | e3
  ·omega
  ·have:=(List.pairwise_cons.1 h2).1 k e3
   omega
theorem apj {own:List Sd}{s:List UInt8}{xs:List Nat}(hn:xs.Nodup)(h:srt own)(hd:∀ a∈own,∀ x∈xs,a.node≠((x:Nat):Int)){r:List Sd}(hr:srt r)
  (hm:∀ y,y∈r↔y∈own∨∃ a,a<xs.length∧y=⟨((xs.getD a 0:Nat):Int),aaL s a⟩):r=ownS own s xs:=
 amh hr (akD xs own s hn h hd) fun y=>by rw[hm,agN]
def aex (t:List Nod)(own:List Sd)(x:Nat):Prop:=∃ s∈own,s.node=(x:Int)∧s.seed.length=32∧pubB s.seed=(ats t x).pub
def aqH (t:List Nod)(me:Int)(x:Nat):Prop:=(ats t x).kind≠0∧me∉(ats t x).un
def wayL (K me:Nat):List Nat:=aah K 0 me++[2*me]
theorem amk (K me:Nat):(wayL K me).Nodup:=by
 unfold wayL;refine List.nodup_append.2 ⟨afb K me,by simp,fun a ha b hb e=>?_⟩;simp at hb;subst hb;have:=aba ha;omega
theorem akG {own:List Sd}(h:srt own):(own.map (·.node)).Nodup:=List.pairwise_map.2 (h.imp fun {a b} hab=>by omega)
theorem an4 {own:List Sd}(h:srt own){a b:Sd}(ha:a∈own)(hb:b∈own)(e:a.node=b.node):a=b:=by
 have h1:=aiD own h a ha;have h2:=aiD own h b hb;rw[e] at h1;cases a;cases b;simp_all
theorem agO:∀ (A B:List Int),A.Nodup→(∀ x∈A,x∈B)→B.length≤A.length→A.Perm B
 | [],B,_,_,h=>by rw[List.eq_nil_of_length_eq_zero (Nat.le_zero.1 h)]
 | a :: A,B,hn,hs,hl=>by
  obtain ⟨s,t,rfl⟩:=List.append_of_mem (hs a (by simp))
  have h1:=List.nodup_cons.1 hn
  have ih:=agO A (s++t) h1.2 (fun x hx=>by
   have:=hs x (by simp[hx])
   rcases List.mem_append.1 this with h | h
   ·exact List.mem_append.2 (.inl h)
   ·rcases List.mem_cons.1 h with e | e
    ·subst e;exact absurd hx h1.1
    ·exact List.mem_append.2 (.inr e)) (by simp at hl ⊢;omega)
  exact (ih.cons a).trans List.perm_middle.symm
open Classical in
theorem akH {t:List Nod}{K me:Nat}{own:List Sd}(hr:aab t K)(hth:aar t (me:Int))(hs:srt own):
  abB t K (me:Int) own↔(∀ x∈wayL K me,aex t own x∨¬aqH t (me:Int) x)∧((wayL K me).filter fun x=>decide (aex t own x)).length=own.length:=by
 have hk1:=(hr.there_iff me).1 hth;have inj:∀ a b:Nat,(a:Int)=(b:Int)→a=b:=fun a b h=>by omega
 have hAn:(((wayL K me).filter fun x=>decide (aex t own x)).map fun x:Nat=>(x:Int)).Nodup:=List.pairwise_map.2 (((amk K me).sublist List.filter_sublist).imp fun {a b} hab e=>hab (inj _ _ e));have hBn:=akG hs;have hsub:∀ z,z∈((wayL K me).filter fun x=>decide (aex t own x)).map (fun x:Nat=>(x:Int))→z∈own.map (·.node):=fun z hz=>by
  obtain ⟨x,hx,rfl⟩:=List.mem_map.1 hz;obtain ⟨s,h1,h2,_⟩:=of_decide_eq_true (List.mem_filter.1 hx).2;exact List.mem_map.2 ⟨s,h1,h2⟩
 rw[ac9,Int.toNat_natCast];constructor
 ·rintro ⟨_,_,s3,s4,s5⟩
  have good:∀ s∈own,∃ x∈wayL K me,(x:Int)=s.node∧aex t own x:=fun s h=>by
   obtain ⟨a,b,c⟩:=s3 s h;rcases a with a | ⟨x,x1,x2,x3⟩
   ·refine ⟨2*me,by unfold wayL;simp,by rw[a];omega,s,h,by rw[a];omega,b,?_⟩
    rw[c,a];congr 2
   ·refine ⟨x,by unfold wayL;simp[x1],x2,s,h,x2.symm,b,?_⟩
    rw[c,← x2,Int.toNat_natCast]
  refine ⟨fun x hx=>?_,?_⟩
  ·rw[Classical.or_iff_not_imp_right,Classical.not_not]
   rintro ⟨m1,m2⟩;have:∃ s∈own,s.node=(x:Int):=by
    unfold wayL at hx;rcases List.mem_append.1 hx with hx | hx
    ·refine s4 x hx ?_ m2
     rcases hr.odd (aba hx) with e | ⟨e,_⟩
     ·rw[e] at m1;exact absurd rfl m1
     ·exact e
    ·simp at hx
     subst hx;obtain ⟨s,a,b⟩:=s5;exact ⟨s,a,by rw[b];omega⟩
   obtain ⟨s,a,b⟩:=this;obtain ⟨y,y1,y2,y3⟩:=good s a;have:y=x:=inj _ _ (by rw[y2,b]);exact this▸y3
  ·have hp:(((wayL K me).filter fun x=>decide (aex t own x)).map fun x:Nat=>(x:Int)).Perm (own.map (·.node)):=by
    refine (List.perm_ext_iff_of_nodup hAn hBn).2 fun z=>⟨hsub z,fun hz=>?_⟩
    obtain ⟨s,h1,rfl⟩:=List.mem_map.1 hz;obtain ⟨x,x1,x2,x3⟩:=good s h1;exact List.mem_map.2 ⟨x,List.mem_filter.2 ⟨x1,decide_eq_true x3⟩,x2⟩
   have:=hp.length_eq;simpa using this
 ·rintro ⟨h1,h2⟩
  have hp:(((wayL K me).filter fun x=>decide (aex t own x)).map fun x:Nat=>(x:Int)).Perm (own.map (·.node)):=
   agO _ _ hAn hsub (by simp[h2])
  have good:∀ s∈own,∃ x∈wayL K me,(x:Int)=s.node∧s.seed.length=32∧pubB s.seed=(ats t x).pub:=fun s h=>by
   have:=hp.symm.subset (List.mem_map.2 ⟨s,h,rfl⟩);obtain ⟨x,hx,e⟩:=List.mem_map.1 this;obtain ⟨h3,h4⟩:=List.mem_filter.1 hx;obtain ⟨s',q1,q2,q3⟩:=of_decide_eq_true h4;have:s'=s:=an4 hs q1 h (by rw[q2,e]);exact ⟨x,h3,e,this▸q3⟩
  refine ⟨hth,hs,fun s h=>?_,fun x hx g1 g2=>?_,?_⟩
  ·obtain ⟨x,x1,x2,x3,x4⟩:=good s h
   refine ⟨?_,x3,by rw[x4,← x2,Int.toNat_natCast]⟩;unfold wayL at x1;rcases List.mem_append.1 x1 with x1 | x1
   ·refine .inr ⟨x,x1,x2,?_⟩
    rcases hr.odd (aba x1) with e | ⟨e,_⟩
    ·rw[e] at x4
     have:=congrArg List.length x4;rw[aaM] at this;cases this
    ·exact e
   ·simp at x1
    exact .inl (by rw[← x2,x1];omega)
  ·rcases h1 x (by unfold wayL;simp[hx]) with ⟨s,a,b,_⟩ | h
   ·exact ⟨s,a,b⟩
   ·exact absurd ⟨by rw[g1];decide,g2⟩ h
  ·rcases h1 (2*me) (by unfold wayL;simp) with ⟨s,a,b,_⟩ | h
   ·exact ⟨s,a,by rw[b];omega⟩
   ·refine absurd ⟨by rw[hk1];decide,?_⟩ h
    rcases hr.even me with e | ⟨_,e,_⟩
    ·rw[e];simp[aan]
    ·rw[e];simp
theorem akI {t:List Nod}{K:Nat}{me:Int}{own:List Sd}(h:abB t K me own):srt own:=(ac9.1 h).2.1
def nS (who:List (List Int))(k:Nat):Nat:=((who.take k).map List.length).sum
theorem an7 {who:List (List Int)}{k:Nat}(h:k<who.length):nS who (k+1)=nS who k+(who.getD k []).length:=by
 unfold nS;rw[List.take_succ_eq_append_getElem h,List.map_append,List.sum_append,List.getD_eq_getElem?_getD,List.getElem?_eq_getElem h];simp
theorem art {who:List (List Int)}{M:Nat}(hM:∀ k,k<who.length→(who.getD k []).length≤M):∀ k,k≤who.length→nS who k≤k*M
 | 0,_=>by simp[nS]
 | k+1,h=>by
  rw[an7 (by omega),Nat.add_mul,Nat.one_mul]
  have:=art hM k (by omega)
  have:=hM k (by omega)
  omega
def stS (t:List Nod)(secret info:List UInt8)(who:List (List Int))(k:Nat):St:=⟨pubR (derB (secS secret k) abR),abW t secret info (secS secret k) (nS who k) (who.getD k [])⟩
theorem alz (t:List Nod)(secret info:List UInt8):∀ (l:List (List Int)) (s:List UInt8) (n k:Nat),k<l.length→(makeS t secret info s n l)[k]?=some ⟨pubR (derB (secS s k) abR),abW t secret info (secS s k) (n+nS l k) (l.getD k [])⟩
 | [],_,_,_,h=>absurd h (Nat.not_lt_zero _)
 | who :: l,s,n,0,_=>by simp[nS];rfl
 | who :: l,s,n,k+1,h=>by
  show (makeS t secret info (derB s ab2) (n+who.length) l)[k]?=_
  rw[alz t secret info l _ _ k (by simpa using h)]
  have e1:secS (derB s ab2) k=secS s (k+1):=by
   have:=adr s 1 k
   rw[Nat.add_comm] at this
   exact this.symm
  have e2:nS (who :: l) (k+1)=who.length+nS l k:=by simp[nS]
  rw[e1,e2,Nat.add_assoc]
  rfl
theorem amm {t:List Nod}{secret info:List UInt8}{who:List (List Int)}{k:Nat}(h:k<who.length):(makeS t secret info secret 0 who).take (k+1)=(makeS t secret info secret 0 who).take k++[stS t secret info who k]:=by
 have hl:=acQ t secret info who secret 0;have hg:=alz t secret info who secret 0 k h;rw[List.take_succ_eq_append_getElem (by omega)];rw[List.getElem?_eq_getElem (by omega)] at hg;rw[Option.some.inj hg,Nat.zero_add];rfl
def seS (t:List Nod)(secret info s:List UInt8)(n:Nat)(l:List Int)(j:Nat):Se:=⟨ahn (ats t (l.getD j 0).toNat).pub (ac6 secret (n+j)),aho (ats t (l.getD j 0).toNat).pub (ac6 secret (n+j)) info s⟩
theorem aiJ (t:List Nod)(secret info s:List UInt8):∀ (l:List Int) (n j:Nat),j<l.length→(abW t secret info s n l)[j]?=some (seS t secret info s n l j)
 | [],_,_,h=>absurd h (Nat.not_lt_zero _)
 | y :: l,n,0,_=>rfl
 | y :: l,n,j+1,h=>by
  show (abW t secret info s (n+1) l)[j]?=_
  rw[aiJ t secret info s l (n+1) j (by simpa using h)]
  unfold seS
  rw[show n+1+j=n+(j+1) by omega]
  rfl
theorem amn {t:List Nod}{secret info s:List UInt8}{n j:Nat}{l:List Int}(h:j<l.length):(abW t secret info s n l).take (j+1)=(abW t secret info s n l).take j++[seS t secret info s n l j]:=by
 have hl:=ach t secret info s l n;have hg:=aiJ t secret info s l n j h;rw[List.take_succ_eq_append_getElem (by omega)];rw[List.getElem?_eq_getElem (by omega)] at hg;rw[Option.some.inj hg]
theorem amo {t:List Nod}{K i k:Nat}(hr:aab t K)(hi:i<2 ^ K)(hk:k<K):(whoF t i k).length≤2048∧∀ l∈whoF t i k,∃ y:Nat,l=(y:Int)∧y<t.length∧(ats t y).kind≠0:=by
 have hq:sq (i / 2 ^ k)<2 ^ (K - k):=by
  have h1:=ae9 (K:=K) (j:=0) (q:=i) (i:=k) (by simpa using hi) (by omega);rw[Nat.zero_add] at h1;obtain ⟨d,hd⟩:∃ d,K - k=d+1:=⟨K - k - 1,by omega⟩;rw[hd,aaj] at h1 ⊢;generalize i / 2 ^ k=r at *;generalize 2 ^ d=D at *;unfold sq;split <;> omega
 have e:whoF t i k=resF t k (sq (i / 2 ^ k)):=alf hr (by omega) hq;rw[e];refine ⟨?_,ard hr k _ (by omega) hq⟩;have h1:=agQ hr k _ (by omega) hq;have h2:=acc (K:=k+1) (by have:=hr.le;omega);have h3:=aaj k;omega
theorem adb {t:List Nod}{K i a:Nat}(hr:aab t K)(hi:i<2 ^ K)(ha:a<(whoN t i K).length):((whoN t i K).getD a []).length≤2048∧∀ j,j<((whoN t i K).getD a []).length→∃ y:Nat,((whoN t i K).getD a []).getD j 0=(y:Int)∧y<t.length∧(ats t y).kind≠0:=by
 have hl:=(aax t i K).2;obtain ⟨k,k1,_,_,_,k5,_⟩:=aly (t:=t) (K:=K) (i:=i) (a:=a) [] [] [] (by omega);rw[k5];obtain ⟨f1,f2⟩:=amo hr hi k1;refine ⟨f1,fun j hj=>f2 _ ?_⟩;rw[List.getD_eq_getElem?_getD,List.getElem?_eq_getElem hj];exact List.getElem_mem hj
theorem numB4 {n:Nat}(h:n<4294967296):numB (n:Int) 4=be 4 n:=by
 unfold numB;rw[if_pos]
 ·rfl
 ·unfold aed
  refine ⟨by omega,by omega,by omega,?_⟩;show (n:Int)<4294967296
  omega
theorem akN (pub half info b:List UInt8):(adq pub half info b).length=b.length+32:=adX _ _ _ _
theorem akO (t:List Nod)(K i:Nat){secret:List UInt8}(seed info:List UInt8)(hs:secret.length=32)(k j:Nat):
  (seAt (stAt (aaR t K i seed secret info).step k).fors j).half.length≤64∧(seAt (stAt (aaR t K i seed secret info).step k).fors j).b.length≤64:=by
 have hz:∀ l:List Se,l.length≤j→(seAt l j).half.length≤64∧(seAt l j).b.length≤64:=fun l h=>by
  have e:seAt l j=⟨[],[]⟩:=by unfold seAt;rw[List.getD_eq_getElem?_getD,List.getElem?_eq_none h];rfl
  rw[e];exact ⟨Nat.zero_le _,Nat.zero_le _⟩
 by_cases hk:k<(whoN t i K).length
 ·obtain ⟨n',e⟩:=aec t secret info (whoN t i K) secret 0 k hk
  show (seAt (stAt (makeS t secret info secret 0 (whoN t i K)) k).fors j).half.length≤64∧(seAt (stAt (makeS t secret info secret 0 (whoN t i K)) k).fors j).b.length≤64
  rw[e];by_cases hj:j<((whoN t i K).getD k []).length
  ·have e2:seAt (abW t secret info (secS secret k) n' ((whoN t i K).getD k [])) j=seS t secret info (secS secret k) n' ((whoN t i K).getD k []) j:=by
    unfold seAt;rw[List.getD_eq_getElem?_getD,aiJ _ _ _ _ _ _ _ hj];rfl
   rw[e2];refine ⟨?_,?_⟩
   ·show (ahn _ _).length≤64
    unfold ahn;split
    ·rw[aaM];decide
    ·exact Nat.zero_le _
   ·show (aho _ _ _ _).length≤64
    unfold aho;split
    ·rw[akN,ab8 hs];decide
    ·exact Nat.zero_le _
  ·exact hz _ (by rw[ach];omega)
 ·have e:stAt (aaR t K i seed secret info).step k=⟨[],[]⟩:=by
   unfold stAt;rw[List.getD_eq_getElem?_getD,List.getElem?_eq_none (by have:=(abS t K i seed secret info).1;omega)];rfl
  rw[e];exact hz [] (Nat.zero_le _)
theorem amp {t:List Nod}{K i:Nat}{secret:List UInt8}(seed info:List UInt8)(hr:aab t K)(hi:i<2 ^ K)(hs:secret.length=32):
  (∀ k j,(seAt (stAt (aaR t K i seed secret info).step k).fors j).b.length≤1600)∧∀ j,j<(aaR t K i seed secret info).step.length→(stAt (aaR t K i seed secret info).step j).pub.length≤10000∧(stAt (aaR t K i seed secret info).step j).fors.length≤10000∧∀ k,k<(stAt (aaR t K i seed secret info).step j).fors.length→(seAt (stAt (aaR t K i seed secret info).step j).fors k).half.length≤10000∧(seAt (stAt (aaR t K i seed secret info).step j).fors k).b.length≤10000:=by
 have hf:=abS t K i seed secret info;refine ⟨fun k j=>Nat.le_trans (akO t K i seed info hs k j).2 (by decide),fun j hj=>⟨?_,?_,fun k _=>⟨Nat.le_trans (akO t K i seed info hs j k).1 (by decide),Nat.le_trans (akO t K i seed info hs j k).2 (by decide)⟩⟩⟩
 ·rw[(hf.2.2 j (by rw[← hf.1];exact hj)).2];decide
 ·rw[(hf.2.2 j (by rw[← hf.1];exact hj)).1]
  exact Nat.le_trans (adb (a:=j) hr hi (by rw[← hf.1];exact hj)).1 (by decide)
end Go.Proofs.YthmhklmkgkfcpaaGreatDoor
namespace Go.Proofs.YthmhklmkgkfcpaaGreatDoor
open Go.RowKit Go.Maps
theorem Tryz.infoSd:(Tryz.prog.info? 90).map (fun i=>(i.zero,i.size,i.bytes))=some (some (.agg #[.int .i64 0,.slice none 0 0]),2,32):=by kernel_rfl
theorem Tryz.infoSe:(Tryz.prog.info? 92).map (fun i=>(i.zero,i.size,i.bytes))=some (some (.agg #[.slice none 0 0,.slice none 0 0]),2,48):=by kernel_rfl
theorem Tryz.infoSt:(Tryz.prog.info? 74).map (fun i=>(i.zero,i.size,i.bytes))=some (some (.agg #[.slice none 0 0,.slice none 0 0]),2,48):=by kernel_rfl
theorem Tryz.infoStp:(Tryz.prog.info? 99).map (fun i=>(i.zero,i.size,i.bytes))=some (some (.agg #[.int .i64 0,.slice none 0 0]),2,32):=by kernel_rfl
theorem Tryz.infoBy:(Tryz.prog.info? 24).map (fun i=>(i.zero,i.size,i.bytes))=some (some (.slice none 0 0),1,24):=by kernel_rfl
theorem Tryz.infoN:(Tryz.prog.info? 3).map (fun i=>(i.zero,i.size,i.bytes))=some (some (.int .i64 0),1,8):=by kernel_rfl
theorem sdK:SK Tryz.prog 23 90 2:=SK.mk' Tryz.underlying23 Tryz.infoSd (by decide) rfl
theorem seK:SK Tryz.prog 72 92 2:=SK.mk' Tryz.underlying72 Tryz.infoSe (by decide) rfl
theorem stK:SK Tryz.prog 25 74 2:=SK.mk' Tryz.underlying25 Tryz.infoSt (by decide) rfl
theorem stpK:SK Tryz.prog 93 99 2:=SK.mk' Tryz.underlying93 Tryz.infoStp (by decide) rfl
theorem byK:SK Tryz.prog 115 24 1:=SK.mk' Tryz.underlying115 Tryz.infoBy (by decide) rfl
theorem nK:SK Tryz.prog 34 3 1:=SK.mk' Tryz.underlying34 Tryz.infoN (by decide) rfl
def shN:Sh Nat where
 k:=1
 pos:=by decide
 R:=fun Z w vs x=>vs=[.int .i64 (x:Int)]
 len:=fun e=>by rw[e];rfl
 one:=fun e=>by rw[e];exact akP rfl
 solid:=fun e _=>e
 step:=fun e _=>e
theorem arM.rn {w:World}{v:Value}{l:List Nat}(h:arM shN w v l):RN w v l:=by
 obtain ⟨a,c,e,h1,h2,h3,h4⟩:=h;refine ⟨a,c,by rw[List.length_map];exact e,by rw[List.length_map];exact h1,h2,h3,fun x hx i hi=>?_⟩;rw[List.length_map] at hi;obtain ⟨b,off,ha,_,hc⟩:=h4 (by omega);rw[hx] at ha;cases ha;obtain ⟨vs,r1,rfl⟩:=hc i _ (List.getElem?_eq_getElem hi);have:=r1 0 _ rfl;rw[Addr.add_mid];simpa [shN,iv] using this
theorem SE.litZ {α:Type}{S:Sh α}{Z:Nat→Prop}{w:World}{vs:List Value}{x:α}{cs:Array Value}(e:TypeId)(h:S.R Z w vs x)(hc:cs.toList=vs):SE S Z (w.alloc (.cells cs e)) (.slice (some ⟨w.heap.size,0,none⟩) 1 1) [x]:=by
 refine ⟨_,1,rfl,Nat.le_refl _,by unfold maxLen;omega,fun h=>(by cases h),fun _=>⟨w.heap.size,0,rfl,by simp,fun i y hy=>?_⟩⟩;have hi:i<1:=(List.getElem?_eq_some_iff.1 hy).1;obtain rfl:i=0:=by omega
 cases hy;refine ⟨vs,fun j z hj=>?_,S.step h (Step.of_kp ((Kp.refl w).alloc _))⟩;have hb:=(Bx.new w e cs).cell j;subst hc;rw[show 0+0*S.k+j=j by omega,hb,← Array.getElem?_toList];exact hj
theorem aeX {Z:Nat→Prop}{w:World}{v:Value}(hs:∀ x n c,v=.slice (some x) n c→0<n→x.block<w.heap.size)(hz:∀ g,Z g→w.heap.size≤g):Free Z v:=fun x n c e h0 hk=>by
 have h1:=hs x n c e h0;have h2:=hz _ hk;omega
theorem aaX {Z:Nat→Prop}{C:Nat}{v:Value}(hv:∀ g,v.ownBlock=some g→C≤g)(hz:∀ g,Z g→g<C):Free Z v:=fun x n c e h0 hk=>by
 have h1:=hv x.block (by rw[e];rfl);have h2:=hz _ hk;omega
theorem GZ.se {α:Type}{S:Sh α}{Z:Nat→Prop}{e:TypeId}{w:World}{B:Nat}{v:Value}{t:List α}(h:GZ S e Z w B v t):SE S Z w v t:=by
 by_cases h0:0<t.length
 ·obtain ⟨g,c,rfl,hb,hg,h1,h2,h3⟩:=h.form h0
  refine ⟨_,c,rfl,h1,h2,fun h=>(by cases h),fun _=>⟨g,0,rfl,hg,fun i x hx=>?_⟩⟩;rw[Nat.zero_add];obtain ⟨vs,r1,r2⟩:=h3 i x hx;exact ⟨vs,r1,S.mono r2 fun _ h=>.inr h⟩
 ·have ht:t=[]:=List.eq_nil_of_length_eq_zero (by omega)
  subst ht;obtain ⟨us,h1,_⟩:=h;rcases h1.2 with ⟨rfl,_⟩ | ⟨g,cap,cur,rfl,hb,hg,hn,hm,hs,ht⟩
  ·exact SE.nil Z w
  ·exact ⟨_,cap,rfl,hn,hm,fun h=>(by cases h),fun h=>absurd h (by simp)⟩
theorem RZ.kp {Z:Nat→Prop}{w w':World}{v:Value}{l:List UInt8}(h:RZ Z w v l)(k:Kp w w'):RZ Z w' v l:=h.step (Step.of_kp k)
theorem SZ.kp {α:Type}{S:Sh α}{Z:Nat→Prop}{w w':World}{v:Value}{l:List α}(h:SZ S Z w v l)(k:Kp w w'):SZ S Z w' v l:=h.step (Step.of_kp k)
theorem SL.nodeK {w:World}{v:Value}{l:List Sd}(h:SL w v l){i:Nat}(hi:i<l.length):
  ∃ b off c q,v=.slice (some ⟨b,off,none⟩) l.length c∧b<w.heap.size∧∀ W,Kp w W→W.cell? ⟨b,off+i*2,none⟩=some (.int .i64 (sdAt l i).node)∧W.cell? ⟨b,off+i*2+1,none⟩=some q∧Rd W q (sdAt l i).seed:=by
 obtain ⟨b,off,c,q,e,hb,c0,c1,r⟩:=SL.node h hi;exact ⟨b,off,c,q,e,hb,fun W k=>⟨k.cell c0,k.cell c1,r.kp k⟩⟩
theorem EL.nodeK {w:World}{v:Value}{l:List Se}(h:EL w v l){i:Nat}(hi:i<l.length):
  ∃ b off c p q,v=.slice (some ⟨b,off,none⟩) l.length c∧b<w.heap.size∧∀ W,Kp w W→W.cell? ⟨b,off+i*2,none⟩=some p∧W.cell? ⟨b,off+i*2+1,none⟩=some q∧Rd W p (seAt l i).half∧Rd W q (seAt l i).b:=by
 obtain ⟨b,off,c,p,q,e,hb,c0,c1,r1,r2⟩:=EL.node h hi;exact ⟨b,off,c,p,q,e,hb,fun W k=>⟨k.cell c0,k.cell c1,r1.kp k,r2.kp k⟩⟩
theorem TL11.nodeK {w:World}{v:Value}{l:List St}(h:TL11 w v l){i:Nat}(hi:i<l.length):
  ∃ b off c p q,v=.slice (some ⟨b,off,none⟩) l.length c∧b<w.heap.size∧∀ W,Kp w W→W.cell? ⟨b,off+i*2,none⟩=some p∧W.cell? ⟨b,off+i*2+1,none⟩=some q∧Rd W p (stAt l i).pub∧EL W q (stAt l i).fors:=by
 obtain ⟨b,off,c,p,q,e,hb,c0,c1,r1,r2⟩:=TL11.node h hi;exact ⟨b,off,c,p,q,e,hb,fun W k=>⟨k.cell c0,k.cell c1,r1.kp k,arM.kp r2 k⟩⟩
section
variable {P : Program} {k : TypeId} {w w' : World} {m n : Nat} {S : Sd → Prop}
variable {ops : Array Oper} {o : Oper} {a : Act} {K' : Act → World → Prop} {Q : Exit → Act → World → Prop} {e : TypeId} {E : Prop}
theorem aie (t:TypeId)(K:Keyed P k)(ht:P.underlying t=some (.map k e))(h:KM P k w m n S)(hn:n<maxLen)(s:Sd)(v:Value)(hkey:keyOf P k (.int .i64 s.node)=some (.int .i64 s.node))(hs:SdIn w v s):
  ∃ w',(Instr.mapUpdate t (.map (some m)) (.int .i64 s.node) v).run P w=.ok () w'∧KM P k w' m (n+1) (fun y=>y=s∨(S y∧y.node≠s.node))∧w.grownBy w' (some m):=by
 obtain ⟨⟨D,h1,h2,h3⟩,h4⟩:=h;have hns:=(KM.mk ⟨D,h1,h2,h3⟩ h4:KM P k w m n S).nosolid;obtain ⟨w',hrun,r1,r2⟩:=h1.update K ht hn hkey (show adv v=some (.held v,[]) from rfl);exact ⟨w',hrun,KM.put h4 h1.isMap h2 h3 (Cs.grown r2 hns) hs r1,r2⟩
theorem afv (t:TypeId)(K:Keyed P k)(ht:P.underlying t=some (.map k e)){z:Value}(hz:(zeroValue e).run P w=.ok z w)(h:KM P k w m n S)(s:Sd)(hs:S s)(hkey:keyOf P k (.int .i64 s.node)=some (.int .i64 s.node)):
  ∃ q,(Instr.lookup t (.map (some m)) (.int .i64 s.node) false).run P w=.ok (sdV s.node q) w∧Rd w q s.seed:=by
 obtain ⟨⟨D,h1,h2,h3⟩,h4⟩:=h;obtain ⟨v,c1,q,rfl,c2⟩:=h3 s hs;obtain ⟨v',ps,hrun,hv⟩:=h1.lookup K ht hz (R:=adv) (zd:=.held z) (zp:=[]) rfl hkey;have e1:DataW.held v'=.held (sdV s.node q):=by
  have:=congrArg (fun x=>x.map Prod.fst) hv;simpa [adv,c1] using this
 cases e1;exact ⟨q,hrun,c2⟩
end
def NoB8 (w:World)(g:Nat):Prop:=∀ (x:Addr) (n:Int),x.block=g→w.cell? x≠some (.int .u8 n)
theorem NoB8.map {w:World}{g:Nat}(h:¬abz w g):NoB8 w g:=fun x n e hc=>h (e▸abz.of_cell hc)
theorem NoB8.box {w:World}{g:Nat}{T:TypeId}{cs:Array Value}(h:Bx w g T cs)(hz:∀ (j:Nat) (z:Value),cs[j]?=some z→∀ n,z≠.int .u8 n):NoB8 w g:=fun x n e hc=>by
 subst e;unfold World.cell? at hc;have hb':w.heap[x.block]?=some (.cells cs T (0,0)):=h;rw[hb'] at hc;dsimp only at hc
 split at hc
 ·cases hc
 ·exact hz _ _ hc n rfl
theorem Rd.free8 {w:World}{g:Nat}{v:Value}{l:List UInt8}(h:Rd w v l)(hs:NoB8 w g):Free (fun k=>k=g) v:=fun x n c e h0 hk=>by
 obtain ⟨a',c',e',h1,h2,h3,h4⟩:=h;rw[e] at e';simp only[Value.slice.injEq] at e';obtain ⟨rfl,rfl,rfl⟩:=e';exact hs _ _ (by rw[aaJ];exact hk) (h4 x rfl 0 h0)
theorem Rd.step8 {w w':World}{v:Value}{l:List UInt8}{Y:Nat→Prop}(h:Rd w v l)(hs:Step Y w w')(hY:∀ g,Y g→NoB8 w g):Rd w' v l:=
 h.stepF hs fun x n c e h0 hk=>h.free8 (hY _ hk) x n c e h0 rfl
theorem arM.bytesAt {w:World}{v:Value}{l:List (List UInt8)}{Y:Nat→Prop}(h:arM shBy w v l)(hY:∀ g,Y g→NoB8 w g)(hf:Free Y v){i:Nat}(hi:i<l.length):
  ∃ b off c q,v=.slice (some ⟨b,off,none⟩) l.length c∧(∀ x n c',q=.slice (some x) n c'→0<n→x.block<w.heap.size)∧∀ W,Step Y w W→W.cell? ⟨b,off+i,none⟩=some q∧Rd W q (bsAt l i):=by
 obtain ⟨b,off,c,q,e,hb,c0,r⟩:=arM.bs h hi;exact ⟨b,off,c,q,e,r.inside,fun W hs=>⟨hs.cell c0 (fun hy=>hf ⟨b,off,none⟩ l.length c e (by omega) hy),r.step8 hs hY⟩⟩
structure arK (P:Program)(k:TypeId)(Z:Nat→Prop)(w:World)(m n:Nat)(S:Sd→Prop):Prop where
 mk ::
 ex:∃ D,w.ownsMap P k adv m n D∧(∀ x:Int,Maps.has D (.int .i64 x)=true↔∃ s,S s∧s.node=x)∧∀ s,S s→∃ q,(∀ zd,D.atKey (.int .i64 s.node) zd=.held (sdV s.node q))∧RZ Z w q s.seed
 one:∀ s s',S s→S s'→s.node=s'.node→s=s'
section
variable {P : Program} {k : TypeId} {Z : Nat → Prop} {w w' : World} {m n : Nat} {S : Sd → Prop}
theorem arK.km (h:arK P k Z w m n S):KM P k w m n S:=by
 obtain ⟨⟨D,h1,h2,h3⟩,h4⟩:=h;refine ⟨⟨D,h1,h2,fun s hs=>?_⟩,h4⟩;obtain ⟨q,a,b⟩:=h3 s hs;exact ⟨_,a,q,rfl,b.1⟩
theorem KM.kz (h:KM P k w m n S):arK P k (fun g=>w.heap.size≤g) w m n S:=by
 obtain ⟨⟨D,h1,h2,h3⟩,h4⟩:=h;refine ⟨⟨D,h1,h2,fun s hs=>?_⟩,h4⟩;obtain ⟨v,a,q,rfl,r⟩:=h3 s hs;exact ⟨q,a,r,fun x n c e h0 hk=>by have:=r.inside x n c e h0;omega⟩
theorem arK.mono {Z':Nat→Prop}(h:arK P k Z w m n S)(hz:∀ g,Z' g→Z g):arK P k Z' w m n S:=by
 obtain ⟨⟨D,h1,h2,h3⟩,h4⟩:=h;refine ⟨⟨D,h1,h2,fun s hs=>?_⟩,h4⟩;obtain ⟨q,a,r⟩:=h3 s hs;exact ⟨q,a,r.mono hz⟩
theorem arK.congr (h:arK P k Z w m n S){S':Sd→Prop}(hs:∀ s,S' s↔S s):arK P k Z w m n S':=by
 have:S'=S:=funext fun s=>propext (hs s)
 rw[this];exact h
theorem arK.olds (h:arK P k Z w m n S):arK P k (fun g=>Z g∨w.heap.size≤g) w m n S:=by
 obtain ⟨⟨D,h1,h2,h3⟩,h4⟩:=h;refine ⟨⟨D,h1,h2,fun s hs=>?_⟩,h4⟩;obtain ⟨q,a,r⟩:=h3 s hs;exact ⟨q,a,r.solid fun g hg=>hg.imp id fun hg hs=>by have:=hs.lt;omega⟩
theorem arK.step {Y:Nat→Prop}(h:arK P k Z w m n S)(hs:Step Y w w')(hY:∀ g,Y g→Z g∨NoB8 w g)(hm:¬Y m):arK P k Z w' m n S:=by
 have hl:=h.km.lt;obtain ⟨⟨D,⟨es,c,h1,h5⟩,h2,h3⟩,h4⟩:=h;refine ⟨⟨D,⟨es,c,(hs.block m hl hm).trans h1,h5⟩,h2,fun s hss=>?_⟩,h4⟩;obtain ⟨q,a,r⟩:=h3 s hss;exact ⟨q,a,r.1.stepF hs fun x n c e h0 hk=>(hY _ hk).elim (r.2 x n c e h0) fun h8=>r.1.free8 h8 x n c e h0 rfl,r.2⟩
theorem arK.kp (h:arK P k Z w m n S)(hk:Kp w w'):arK P k Z w' m n S:=h.step (Y:=fun _=>False) (Step.of_kp hk) (fun g hg=>hg.elim) (fun h=>h)
theorem arK.moved {v v':Value}(h:arK P k (fun g=>some g=v.ownBlock) w m n S)(hg:w.grownBy w' v.ownBlock)(hk:v'.ownBlock=v.ownBlock∨v'.ownBlock=some w.heap.size)(hm:some m≠v.ownBlock):arK P k (fun g=>some g=v'.ownBlock) w' m n S:=by
 have h2:=h.olds.step (Y:=fun g=>some g=v.ownBlock) ⟨hg.os,hg.tape,hg.output,hg.size,fun q hq hn=>hg.block q hq fun e=>hn e⟩ (fun g hg=>.inl (.inl hg)) hm;refine h2.mono fun g e=>?_
 rcases hk with hk | hk
 ·exact .inl (by rw[← hk];exact e)
 ·rw[hk] at e
  simp only[Option.some.injEq] at e;exact .inr (by omega)
theorem amQ {t e:TypeId}(K:Keyed P k)(ht:P.underlying t=some (.map k e))(h:arK P k Z w m n S)(hn:n<maxLen)(s:Sd)(q:Value)(hkey:keyOf P k (.int .i64 s.node)=some (.int .i64 s.node))(hs:RZ Z w q s.seed):
  ∃ w',(Instr.mapUpdate t (.map (some m)) (.int .i64 s.node) (.agg #[.int .i64 s.node,q])).run P w=.ok () w'∧arK P k Z w' m (n+1) (fun y=>y=s∨(S y∧y.node≠s.node))∧w.grownBy w' (some m):=by
 have hns:=h.km.nosolid;obtain ⟨⟨D,h1,h2,h3⟩,h4⟩:=h;obtain ⟨w',hrun,r1,r2⟩:=h1.update K ht hn hkey (show adv (.agg #[.int .i64 s.node,q])=some (.held (sdV s.node q),[]) from rfl);have hk:WideAt.IsKeyLit (.int .i64 s.node):=trivial;have hc:Cs w w':=Cs.grown r2 hns;have hkm:=KM.put (w:=w) (w':=w') (m:=m) (n:=n+1) h4 h1.isMap h2 (fun s hs=>by
  obtain ⟨q,a,b⟩:=h3 s hs;exact ⟨_,a,q,rfl,b.1⟩) hc ⟨q,rfl,hs.1⟩ r1
 refine ⟨w',hrun,⟨⟨_,r1,?_,fun y hy=>?_⟩,hkm.one⟩,r2⟩
 ·intro x
  by_cases e:x=s.node
  ·subst e
   rw[has_put_same h1.isMap hk];exact ⟨fun _=>⟨s,.inl rfl,rfl⟩,fun _=>rfl⟩
  ·rw[has_put_other (fun h=>e (by simpa using h)),h2 x]
   constructor
   ·rintro ⟨y,a,b⟩
    exact ⟨y,.inr ⟨a,by rw[b];exact e⟩,b⟩
   ·rintro ⟨y,a | ⟨a,_⟩,b⟩
    ·subst a;exact absurd b.symm e
    ·exact ⟨y,a,b⟩
 ·rcases hy with rfl | ⟨a,b⟩
  ·exact ⟨q,fun zd=>atKey_put_same h1.isMap hk _ zd,hs.1.cs hc,hs.2⟩
  ·obtain ⟨q',c1,c2⟩:=h3 y a
   refine ⟨q',fun zd=>?_,c2.1.cs hc,c2.2⟩;rw[atKey_put_other (fun h=>b (by simpa using h))];exact c1 zd
end
end Go.Proofs.YthmhklmkgkfcpaaGreatDoor
namespace Go.Proofs.YthmhklmkgkfcpaaGreatDoor
open Go.RowKit
theorem arM.old {α:Type}{S:Sh α}{w:World}{v:Value}{l:List α}(h:arM S w v l):SZ S (fun g=>w.heap.size≤g) w v l:=
 ⟨SE.solidly h fun g hg=>.inr fun hs=>by have:=hs.lt;omega,fun x n c e h0 hk=>by have:=SE.inside h x n c e h0;omega⟩
theorem SZ.olds {α:Type}{S:Sh α}{Z:Nat→Prop}{w:World}{v:Value}{l:List α}(h:SZ S Z w v l):SZ S (fun g=>Z g∨w.heap.size≤g) w v l:=
 ⟨h.1.solidly fun g hg=>hg.imp id fun hg hs=>by have:=hs.lt;omega,fun x n c e h0 hk=>hk.elim (fun hk=>h.2 x n c e h0 hk) fun hk=>by have:=h.1.inside x n c e h0;omega⟩
theorem ak8 (v:Value)(t:List St)(Z:Nat→Prop)(w:World)(hv:SZ shSt Z w v t)(hl:t.length≤100000):
  Calls Tryz.prog 121 #[v] w fun e w'=>(∃ v',e=.returned v'∧GZ shSt 74 (fun g=>Z g∨w.heap.size<g) w' w.heap.size v' t)∧Kp w w':=by
 have q:∀ (w:World) (a:Option Addr) (n c n' c':Nat),(binOp .eql 25 (.slice a n c) (.slice none n' c')).run Tryz.prog w=.ok (.bool a.isNone) w:=fun w a n c n' c'=>Lib.run_eql_slice_nil w _ _ a n c n' c' Tryz.underlying25
 obtain ⟨a,c,rfl,hc,hm,hnil,hcell⟩:=id hv.1
 cases a with
 | none=>
  have hc0:=hnil rfl
  have hl0:t=[]:=List.eq_nil_of_length_eq_zero (by omega)
  subst hl0 hc0
  go_enter Tryz.func121,Tryz.ntmps121
  go_wp2_with fail
  go_ret
  exact ⟨⟨_,rfl,GZ.nil _ _ _⟩,Kp.refl _⟩
 | some a=>
  have HV:Hid (SE shSt (fun g=>some g=(Value.slice (some ⟨w.heap.size,0,none⟩) 0 0).ownBlock∨(Z g∨w.heap.size<g)) (w.alloc (.cells #[] 74)) (.slice (some a) t.length c) t):=
   (SZ.step (hv.olds) (Step.of_kp ((Kp.refl w).alloc _))).1.mono fun g hg=>hg.elim (fun e=>by simp[Value.ownBlock] at e;exact .inr (by omega)) fun h=>h.imp id fun h=>by omega
  have hlen:([]:List St).length+t.length≤1000000:=by simp;omega
  clear hv hcell hnil
  go_enter Tryz.func121,Tryz.ntmps121
  go_wp2_with (at_builtin;refine aa5 (S:=shSt) (Z:=fun g=>Z g∨w.heap.size<g) stK rfl _ _ rfl w.heap.size _ [] rfl (GZ.empty _ w) _ t rfl HV.out hlen (by simp) ?_;intro v' w' o' g' _)
  go_ret
  exact ⟨⟨_,rfl,by simpa using o'⟩,Kp.grown (v:=.slice (some ⟨w.heap.size,0,none⟩) 0 0) ((Kp.refl _).alloc _) g' (by intro k hk;simp[Value.ownBlock] at hk;omega)⟩
theorem ak9 (v:Value)(t:List Se)(Z:Nat→Prop)(w:World)(hv:SZ shSe Z w v t)(hl:t.length≤100000):
  Calls Tryz.prog 122 #[v] w fun e w'=>(∃ v',e=.returned v'∧GZ shSe 92 (fun g=>Z g∨w.heap.size<g) w' w.heap.size v' t)∧Kp w w':=by
 have q:∀ (w:World) (a:Option Addr) (n c n' c':Nat),(binOp .eql 72 (.slice a n c) (.slice none n' c')).run Tryz.prog w=.ok (.bool a.isNone) w:=fun w a n c n' c'=>Lib.run_eql_slice_nil w _ _ a n c n' c' Tryz.underlying72
 obtain ⟨a,c,rfl,hc,hm,hnil,hcell⟩:=id hv.1
 cases a with
 | none=>
  have hc0:=hnil rfl
  have hl0:t=[]:=List.eq_nil_of_length_eq_zero (by omega)
  subst hl0 hc0
  go_enter Tryz.func122,Tryz.ntmps122
  go_wp2_with fail
  go_ret
  exact ⟨⟨_,rfl,GZ.nil _ _ _⟩,Kp.refl _⟩
 | some a=>
  have HV:Hid (SE shSe (fun g=>some g=(Value.slice (some ⟨w.heap.size,0,none⟩) 0 0).ownBlock∨(Z g∨w.heap.size<g)) (w.alloc (.cells #[] 92)) (.slice (some a) t.length c) t):=
   (SZ.step (hv.olds) (Step.of_kp ((Kp.refl w).alloc _))).1.mono fun g hg=>hg.elim (fun e=>by simp[Value.ownBlock] at e;exact .inr (by omega)) fun h=>h.imp id fun h=>by omega
  have hlen:([]:List Se).length+t.length≤1000000:=by simp;omega
  clear hv hcell hnil
  go_enter Tryz.func122,Tryz.ntmps122
  go_wp2_with (at_builtin;refine aa5 (S:=shSe) (Z:=fun g=>Z g∨w.heap.size<g) seK rfl _ _ rfl w.heap.size _ [] rfl (GZ.empty _ w) _ t rfl HV.out hlen (by simp) ?_;intro v' w' o' g' _)
  go_ret
  exact ⟨⟨_,rfl,by simpa using o'⟩,Kp.grown (v:=.slice (some ⟨w.heap.size,0,none⟩) 0 0) ((Kp.refl _).alloc _) g' (by intro k hk;simp[Value.ownBlock] at hk;omega)⟩
end Go.Proofs.YthmhklmkgkfcpaaGreatDoor
