/- PathSpoilt: the law of that name answers true at every input, and leaves its arguments as they were: where the tables of math/bits hold what their own initialisers lay, to which the card ties them. No further condition. -/
import Derived.Test.YthmhklmkgkfcpaaGreatDoorV33
import Derived.Test.YthmhklmkgkfcpaaGreatDoorCards
import Derived.Test.YthmhklmkgkfcpaaGreatDoorTie
import Derived.ShutString
import Derived.ChangeOld
import Derived.SevenTiedAt
set_option linter.unusedVariables false
set_option linter.unusedSimpArgs false
set_option maxHeartbeats 8000000
set_option maxRecDepth 100000
namespace Go.Proofs.YthmhklmkgkfcpaaGreatDoor.pathSpoilt
open Go.ChangeShapes Go.WideShapes Go.ChangeAt Go.RowKit
open Go.ChangeMaps (open_string shut_string)
theorem own:ownKnob Tryz.prog.godebug=none:=by kernel_rfl
theorem laidOut:laidOutB Tryz.prog=true:=by kernel_rfl
theorem contract (H:Type)(enc:TypeId × Value→H)(W:World)(base:Nat)(args:Array Value)(ds gs:List (DataW H))(before:List MemPlace)
  (hval0:∀ (j:Nat) t v,Tryz.f7.params[j]?=some t→args[j]?=some v→Value.okWide Tryz.prog W .any base t v)
  (hW:DataW.Whole enc Tryz.prog Tryz.f7.params.toList Rows.pathSpoiltSpec.vars false W args.toList ds gs before)
  (hL:laidMetH Tryz.prog Rows.pathSpoiltRow.laid W):
  Calls Tryz.prog 7 args W fun e W'=>∃ v,e=.returned v∧Rows.pathSpoiltSpec.post enc Tryz.prog Tryz.f7 false true false false W args v W':=by
 have hT:=zq hL;have hval:∀ (j:Nat) t v,Tryz.f7.params[j]?=some t→args[j]?=some v→Value.okWide Tryz.prog W .any base t v:=hval0;have hW':=hW;obtain⟨p,q,hA0,hV,rfl,hfz,hnd⟩:=hW;have hA:DataW.TrodAll enc Tryz.prog W 0 (fun _=>true) true Tryz.f7.params.toList args.toList ds p:=hA0;rw[Tryz.params7] at hA hval;obtain⟨v0,vs0,d0,ds0,p0,q0,hargs,rfl,rfl,h0,r0⟩:=trodAll_cons hA;obtain⟨rfl,rfl,rfl⟩:=trodAll_nil r0;obtain rfl:args=#[v0]:=by cases args;simp_all
 obtain⟨rfl,rfl⟩:=trodVars_none hV;have k0:=h0;have lt0:∀ x∈p0,x.block<W.heap.size:=by obtain⟨m,hm⟩:=k0;exact DataW.trod_lt m _ _ _ hm
 obtain⟨f0_0,f0_1,f0_2,f0_3,f0_4,f0_5_0,f0_5_1,f0_5_2,y0_0,y0_1,y0_2,y0_3,y0_4,y0_5,_,rfl,ed0,t0_0,t0_1,t0_2,t0_3,t0_4,t0_5⟩:=Ir Tryz.underlying68 (by kernel_rfl) (by kernel_rfl) (hval 0 68 v0 rfl rfl) h0;obtain⟨uf0_0,lf0_0,ef0_0,rf0_0⟩:=NL.of_cells Tryz.underlying22 Tryz.underlying81 (by kernel_rfl) (by kernel_rfl) Tryz.underlying3 Tryz.underlying3 Tryz.underlying24 Tryz.underlying34 Tryz.underlying24 Tryz.underlying5 (by kernel_rfl) Tryz.underlying3 (by kernel_rfl) t0_0;cases ef0_0;obtain⟨nf0_1,ef0_1,_,wff0_1⟩:=Lv Tryz.underlying3 t0_1;cases ef0_1;obtain⟨nf0_2,ef0_2,_,wff0_2⟩:=Lv Tryz.underlying3 t0_2;cases ef0_2;obtain⟨uf0_3,lf0_3,ef0_3,rf0_3⟩:=SL.of_cells Tryz.underlying23 Tryz.underlying90 (by kernel_rfl) (by kernel_rfl) Tryz.underlying3 Tryz.underlying24 Tryz.underlying5 (by kernel_rfl) t0_3;cases ef0_3;obtain⟨nf0_4,ef0_4,_,wff0_4⟩:=Lv Tryz.underlying5 t0_4;cases ef0_4;obtain⟨nf0_5_0,nf0_5_1,nf0_5_2,⟨rfl,rfl,rfl⟩,wff0_5_0,wff0_5_1,wff0_5_2⟩:=Is Tryz.underlying66 Tryz.underlying5 (by kernel_rfl) (by kernel_rfl) t0_5;clear hA0 hval0;refine(Io _ _ lf0_0 nf0_1 nf0_2 lf0_3 nf0_4 nf0_5_0 nf0_5_1 nf0_5_2 W rf0_0 rf0_3 (wf8 wff0_4) (wf8 wff0_5_0) (wf8 wff0_5_1) (wf8 wff0_5_2) hT).mono fun e W' ⟨he,bel⟩=>?_
 subst he;exact⟨_,rfl,_,_,_,[],_,[],hW',trodAll_mk1 (shut_bool Tryz.underlying4 _),(trodAll_cons_mk (Below.trod laidOut (by kernel_rfl) (JU (by kernel_rfl)) k0 bel lt0) trodAll_mk0),rfl,bel.frame _,fun h=>by cases h⟩
theorem laid_met (os:Os):laidMet Tryz.prog Rows.pathSpoiltRow.laid ((pT os).forCall (fun _ _=>0) ⟨#[],#[.agg #[.slice none 0 0,.int .i64 0,.int .i64 0,.slice none 0 0,.int .u8 0,.int .u8 0,.int .u8 0,.int .u8 0]],[]⟩).memory:=
 laidMet_of_run' 8 (by kernel_rfl) (by kernel_rfl)
theorem reads (os:Os){H:Type}(enc:TypeId × Value→H):∃ places,DataW.whole enc Tryz.prog ((pT os).forCall (fun _ _=>0) ⟨#[],#[.agg #[.slice none 0 0,.int .i64 0,.int .i64 0,.slice none 0 0,.int .u8 0,.int .u8 0,.int .u8 0,.int .u8 0]],[]⟩).memory Tryz.f7.params.toList Rows.pathSpoiltSpec.vars false (#[.agg #[.slice none 0 0,.int .i64 0,.int .i64 0,.slice none 0 0,.int .u8 0,.int .u8 0,.int .u8 0,.int .u8 0]]:Array Value).toList 8=some ([.agg [.nil,.lit (.int .i64 0),.lit (.int .i64 0),.nil,.lit (.int .u8 0),.agg [.lit (.int .u8 0),.lit (.int .u8 0),.lit (.int .u8 0)]]],[],places):=
 ⟨[],by kernel_rfl⟩
theorem lifted (os:Os)(started:os.Started)(H:Type)(enc:TypeId × Value→H)(F:Stop.Interp):
  ReturnsInHanded {} Tryz.checked os 7 .any ((OpenSpec.ofChange Rows.pathSpoiltSpec).preRow enc Tryz.prog Tryz.f7 Rows.pathSpoiltRow.domain false Rows.pathSpoiltRow.laid) (((OpenSpec.ofChange Rows.pathSpoiltSpec).at F).post enc Tryz.prog Tryz.f7 false true false false):=by
 obtain⟨places,hx⟩:=reads os enc;refine returnsInHanded_of_row (C:=Tryz.checked) (s:=OpenSpec.ofChange Rows.pathSpoiltSpec) own started (by kernel_rfl) Tryz.func7
  (witness_row_at (enc:=enc) (C:=Tryz.checked) false (pT os) #[.agg #[.slice none 0 0,.int .i64 0,.int .i64 0,.slice none 0 0,.int .u8 0,.int .u8 0,.int .u8 0,.int .u8 0]] rfl (by kernel_rfl) (by kernel_rfl) (by kernel_rfl)
   (OpenSpec.preRow_of_cond 8 hx (by kernel_rfl) (fun k hk=>by cases hk) (by kernel_rfl) (laid_met os))) ?_
 intro W base args ds gs before hval hW _ _ hsz hL _ _;exact contract H enc W base args ds gs before hval hW hL
theorem said:Rows.PathSpoiltSaid:=
 OpenClaim.holds_of_cond 7 Tryz.f7 rfl rfl rfl rfl rfl rfl rfl ⟨rfl,rfl,rfl,rfl,rfl⟩ rfl rfl rfl rfl rfl (by kernel_rfl) Tryz.func7 (by kernel_rfl)
  (JU (by kernel_rfl)) (by unfold Func.isWrapper;first|(rw[if_pos (by decide +kernel)];kernel_rfl)|(rw[if_neg (by decide +kernel)];exact⟨rfl,rfl⟩))
  (fun os started H enc _ F=>by rw[OpenClaim.pre_eq_preRow];exact lifted os started H enc F)
theorem wants:(Tryz.f7.params.all fun t=>!Tryz.prog.wantsStandIn t)=true:=by kernel_rfl
theorem plain (f : FuncId)(fn : Func)(hf : Tryz.pinned.checked.prog.funcNamed "pyx/pyxlaw11.PathSpoilt" = some f)(hfn : Tryz.pinned.checked.prog.funcs[f]? = some fn) :
  false=Tryz.pinned.checked.prog.looks []∧∀ (j:Nat) t,fn.params[j]?=some t→Tryz.pinned.checked.prog.wantsStandIn t=false:=by
 obtain rfl : f = 7 := Ld ((show Tryz.prog.funcNamed "pyx/pyxlaw11.PathSpoilt" = some 7 by kernel_rfl).symm.trans hf) |>.symm
 obtain rfl:fn=Tryz.f7:=(Ld (Tryz.func7.symm.trans hfn)).symm;refine⟨by kernel_rfl,fun j t ht=>?_⟩;have h:=Kv.1 wants t (Array.mem_of_getElem? ht);have h2:Tryz.prog.wantsStandIn t=false:=by simpa using h
 exact h2
theorem card:Rows.PathSpoiltCardSaid:=
 Claim7.holds_tied_plain_at .later [] _ _ _ _ said (fun _ h=>by cases h) (by kernel_rfl) (fun _ h=>by cases h) pathSpoilt_row_tie rfl ⟨rfl,rfl⟩ (by kernel_rfl) rfl plain (by kernel_rfl)
end Go.Proofs.YthmhklmkgkfcpaaGreatDoor.pathSpoilt
