import Derived.Test.YthmhklmkgkfcpaaGreatDoorX26
import Derived.Test.YthmhklmkgkfcpaaGreatDoorCards
import Derived.Test.YthmhklmkgkfcpaaGreatDoorTie
import Derived.ShutString
import Derived.ChangeOld
import Derived.SevenTiedAt
set_option linter.all false
set_option maxHeartbeats 8000000
set_option maxRecDepth 100000
namespace Go.Proofs.YthmhklmkgkfcpaaGreatDoor.pathTakes
open Go.Proofs.Tryz Go.ChangeShapes Go.WideShapes Go.ChangeAt Go.RowKit
open Go.ChangeMaps (open_string shut_string)
abbrev A0:Value:=.agg #[.slice none 0 0,.int .i64 0,.int .i64 0,.slice none 0 0,.slice none 0 0,.slice none 0 0,.slice none 0 0]
theorem own:ownKnob Tryz.prog.godebug=none:=by kernel_rfl
theorem laidOut:laidOutB Tryz.prog=true:=by kernel_rfl
theorem contract (H:Type)(enc:TypeId × Value→H)(W:World)(base:Nat)(args:Array Value)(ds gs:List (DataW H))(before:List MemPlace)
  (hval0:∀ (j:Nat) t v,Tryz.f5.params[j]?=some t→args[j]?=some v→Value.okWide Tryz.prog W .any base t v)
  (hW:DataW.Whole enc Tryz.prog Tryz.f5.params.toList Rows.pathTakesSpec.vars false W args.toList ds gs before)
  (hL:laidMetH Tryz.prog Rows.pathTakesRow.laid W):
  Calls Tryz.prog 5 args W fun e W'=>∃ v,e=.returned v∧Rows.pathTakesSpec.post enc Tryz.prog Tryz.f5 false true false false W args v W':=by
 have hT:=Aj hL;have hval:∀ (j:Nat) t v,Tryz.f5.params[j]?=some t→args[j]?=some v→Value.okWide Tryz.prog W .any base t v:=hval0;have hW':=hW;obtain⟨p,q,hA0,hV,rfl,hfz,hnd⟩:=hW;have hA:DataW.TrodAll enc Tryz.prog W 0 (fun _=>true) true Tryz.f5.params.toList args.toList ds p:=hA0;rw[Tryz.params5] at hA hval;obtain⟨v0,vs0,d0,ds0,p0,q0,hargs,rfl,rfl,h0,r0⟩:=trodAll_cons hA;obtain⟨rfl,rfl,rfl⟩:=trodAll_nil r0;obtain rfl:args=#[v0]:=by cases args;simp_all
 obtain⟨rfl,rfl⟩:=trodVars_none hV;have k0:=h0;have lt0:∀ x∈p0,x.block<W.heap.size:=by obtain⟨m,hm⟩:=k0;exact DataW.trod_lt m _ _ _ hm
 obtain⟨f0,f1,f2,f3,f4,f5_0,f5_1,y0,y1,y2,y3,y4,y5,_,rfl,ed0,s0,s1,s2,s3,s4,s5⟩:=Jy underlying55 (by kernel_rfl) (by kernel_rfl) (hval 0 55 v0 rfl rfl) h0;obtain⟨uf0,lf0,ef0,rf0⟩:=NL.of_cells underlying22 underlying81 (by kernel_rfl) (by kernel_rfl) underlying3 underlying3 underlying24 underlying34 underlying24 underlying5 (by kernel_rfl) underlying3 (by kernel_rfl) s0;cases ef0;obtain⟨nf1,ef1,_,wff1⟩:=Nu underlying3 s1;cases ef1;obtain⟨nf2,ef2,_,wff2⟩:=Nu underlying3 s2;cases ef2;obtain⟨uf3,lf3,ef3,rf3⟩:=SL.of_cells underlying23 underlying90 (by kernel_rfl) (by kernel_rfl) underlying3 underlying24 underlying5 (by kernel_rfl) s3;cases ef3;obtain⟨lf4,rf4⟩:=Rd.of_one underlying24 underlying5 (by kernel_rfl) s4;obtain⟨uf5,vf5,pf5,ef5,rf5⟩:=PIn.of_cells underlying27 (by kernel_rfl) (by kernel_rfl) underlying24 underlying25 underlying74 (by kernel_rfl) (by kernel_rfl) underlying24 underlying72 underlying92 (by kernel_rfl) (by kernel_rfl) underlying24 underlying24 underlying5 (by kernel_rfl) s5;cases ef5;clear hA0 hval0;refine(Jv _ _ _ _ _ lf0 nf1 nf2 lf3 lf4 pf5 W rf0 rf3 rf4 rf5 hT).mono fun e W' ⟨he,bel⟩=>?_
 subst he;exact⟨_,rfl,_,_,_,[],_,[],hW',trodAll_mk1 (shut_bool underlying4 _),(trodAll_cons_mk (Below.trod laidOut (by kernel_rfl) (Ly (by kernel_rfl)) k0 bel lt0) trodAll_mk0),rfl,bel.frame _,fun h=>by cases h⟩
theorem laid_met (os:Os):laidMet Tryz.prog Rows.pathTakesRow.laid ((qO os).forCall (fun _ _=>0) ⟨#[],#[A0],[]⟩).memory:=
 laidMet_of_run' 8 (by kernel_rfl) (by kernel_rfl)
theorem reads (os:Os){H:Type}(enc:TypeId × Value→H):∃ places,DataW.whole enc Tryz.prog ((qO os).forCall (fun _ _=>0) ⟨#[],#[A0],[]⟩).memory Tryz.f5.params.toList Rows.pathTakesSpec.vars false (#[A0]:Array Value).toList 8=some ([.agg [.nil,.lit (.int .i64 0),.lit (.int .i64 0),.nil,.nil,.agg [.nil,.nil]]],[],places):=
 ⟨[],by kernel_rfl⟩
theorem lifted (os:Os)(started:os.Started)(H:Type)(enc:TypeId × Value→H)(F:Stop.Interp):
  ReturnsInHanded {} Tryz.checked os 5 .any ((OpenSpec.ofChange Rows.pathTakesSpec).preRow enc Tryz.prog Tryz.f5 Rows.pathTakesRow.domain false Rows.pathTakesRow.laid) (((OpenSpec.ofChange Rows.pathTakesSpec).at F).post enc Tryz.prog Tryz.f5 false true false false):=by
 obtain⟨places,hx⟩:=reads os enc;refine returnsInHanded_of_row (C:=Tryz.checked) (s:=OpenSpec.ofChange Rows.pathTakesSpec) own started (by kernel_rfl) Tryz.func5
  (witness_row_at (enc:=enc) (C:=Tryz.checked) false (qO os) #[A0] rfl (by kernel_rfl) (by kernel_rfl) (by kernel_rfl)
   (OpenSpec.preRow_of_cond 8 hx (by kernel_rfl) (fun k hk=>by cases hk) (by kernel_rfl) (laid_met os))) ?_
 intro W base args ds gs before hval hW _ _ hsz hL _ _;exact contract H enc W base args ds gs before hval hW hL
theorem said:Rows.PathTakesSaid:=
 OpenClaim.holds_of_cond 5 Tryz.f5 rfl rfl rfl rfl rfl rfl rfl ⟨rfl,rfl,rfl,rfl,rfl⟩ rfl rfl rfl rfl rfl (by kernel_rfl) Tryz.func5 (by kernel_rfl)
  (Ly (by kernel_rfl)) (by unfold Func.isWrapper;first|(rw[if_pos (by decide +kernel)];kernel_rfl)|(rw[if_neg (by decide +kernel)];exact⟨rfl,rfl⟩))
  (fun os started H enc _ F=>by rw[OpenClaim.pre_eq_preRow];exact lifted os started H enc F)
theorem wants:(Tryz.f5.params.all fun t=>!Tryz.prog.wantsStandIn t)=true:=by kernel_rfl
theorem plain (f : FuncId)(fn : Func)(hf : Tryz.pinned.checked.prog.funcNamed "pyx/pyxlaw11.PathTakes" = some f)(hfn : Tryz.pinned.checked.prog.funcs[f]? = some fn) :
  false=Tryz.pinned.checked.prog.looks []∧∀ (j:Nat) t,fn.params[j]?=some t→Tryz.pinned.checked.prog.wantsStandIn t=false:=by
 obtain rfl : f = 5 := Ms ((show Tryz.prog.funcNamed "pyx/pyxlaw11.PathTakes" = some 5 by kernel_rfl).symm.trans hf) |>.symm
 obtain rfl:fn=Tryz.f5:=(Ms (Tryz.func5.symm.trans hfn)).symm;refine⟨by kernel_rfl,fun j t ht=>?_⟩;have h:=Mg.1 wants t (Array.mem_of_getElem? ht);have h2:Tryz.prog.wantsStandIn t=false:=by simpa using h
 exact h2
theorem card:Rows.PathTakesCardSaid:=
 Claim7.holds_tied_plain_at .later [] _ _ _ _ said (fun _ h=>by cases h) (by kernel_rfl) (fun _ h=>by cases h) pathTakes_row_tie rfl ⟨rfl,rfl⟩ (by kernel_rfl) rfl plain (by kernel_rfl)
end Go.Proofs.YthmhklmkgkfcpaaGreatDoor.pathTakes
