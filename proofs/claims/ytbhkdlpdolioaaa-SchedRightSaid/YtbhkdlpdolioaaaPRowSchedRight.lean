/- SchedRight: the law of that name answers true at every input, and leaves its arguments as they were. No further condition. -/
import Derived.Test.YtbhkdlpdolioaaaP2
import Derived.Test.YtbhkdlpdolioaaaP4
import Derived.Test.YtbhkdlpdolioaaaP46
import Derived.Test.YtbhkdlpdolioaaaP47
import Derived.OpenShut
import Derived.ShutString
import Derived.ChangeOld
set_option linter.unusedVariables false
set_option linter.unusedSimpArgs false
set_option maxHeartbeats 8000000
set_option maxRecDepth 100000
namespace Go.Proofs.Ytbhkdlpdolioaaa.schedRight
open Go.ChangeShapes Go.WideShapes Go.ChangeAt Go.RowKit
open Go.ChangeMaps (open_string shut_string)
theorem own:ownKnob Try.prog.godebug=none:=by kernel_rfl
theorem laidOut:laidOutB Try.prog=true:=by kernel_rfl
theorem lifted (os:Os)(started:os.Started)(H:Type)(enc:TypeId × Value→H):
  ReturnsInHanded {} Try.checked os 5 .any (Rows.schedRightSpec.pre6 enc Try.prog Try.f5 Rows.schedRightRow.domain false) (Rows.schedRightSpec.post enc Try.prog Try.f5 false true false false):=by
 refine returnsInHanded_of_change_sized (C:=Try.checked) own started (by kernel_rfl) Try.func5
  (ChangeSpec.witness6 (enc:=enc) (C:=Try.checked) false ⟨#[],#[.agg #[.slice none 0 0,.slice none 0 0,.slice none 0 0,.slice none 0 0]],[]⟩ 8 (by kernel_rfl) (by kernel_rfl) (by kernel_rfl) (by kernel_rfl)) ?_
 intro W base args ds gs before hval0 hW hcnd hsz0 _;have hval:∀ (j:Nat) t v,Try.f5.params[j]?=some t→args[j]?=some v→Value.okWide Try.prog W .any base t v:=hval0;have hW':=hW;obtain ⟨p,q,hA0,hV,rfl,hfz,hnd⟩:=hW;have hA:DataW.TrodAll enc Try.prog W 0 (fun _=>true) true Try.f5.params.toList args.toList ds p:=hA0;have hsz:(DataW.weightsEach Try.prog (Try.f5.params.toList++Rows.schedRightSpec.plain.varTypes Try.prog) (ds++gs)).all (·≤reachBytes)=true:=hsz0;rw[Try.params5] at hA hval hsz;obtain ⟨v0,vs0,d0,ds0,p0,q0,hargs,rfl,rfl,h0,r0⟩:=trodAll_cons hA;obtain ⟨rfl,rfl,rfl⟩:=trodAll_nil r0;obtain rfl:args=#[v0]:=by cases args;simp_all
 obtain ⟨rfl,rfl⟩:=trodVars_none hV;have k0:=h0;have lt0:∀ x∈p0,x.block<W.heap.size:=by obtain ⟨m,hm⟩:=k0;exact DataW.trod_lt m _ _ _ hm
 obtain ⟨f0_0,f0_1,f0_2,f0_3,y0_0,y0_1,y0_2,y0_3,_,rfl,ed0,t0_0,t0_1,t0_2,t0_3⟩:=ab7 Try.underlying54 (by kernel_rfl) (by kernel_rfl) (hval 0 54 v0 rfl rfl) h0;obtain ⟨lf0_0,rf0_0⟩:=Rd.of_one Try.underlying22 Try.underlying5 (by kernel_rfl) t0_0;obtain ⟨lf0_1,rf0_1⟩:=Rd.of_one Try.underlying22 Try.underlying5 (by kernel_rfl) t0_1;obtain ⟨lf0_2,rf0_2⟩:=Rd.of_one Try.underlying22 Try.underlying5 (by kernel_rfl) t0_2;obtain ⟨lf0_3,rf0_3,zf0_3⟩:=RL.of_field Try.underlying23 (by kernel_rfl) Try.underlying22 Try.underlying5 (by kernel_rfl) (by kernel_rfl) t0_3 140737488351232 (ac2 (i:=3) Try.underlying54 rfl rfl _ (ed0▸ac1 hsz (j:=0) rfl rfl));clear hA0 hval0 hsz0;refine (acr f0_0 f0_1 f0_2 f0_3 lf0_0 lf0_1 lf0_2 lf0_3 W rf0_0 rf0_1 rf0_2 rf0_3 zf0_3).mono fun e W' ⟨he,bel⟩=>?_
 subst he;exact ⟨_,rfl,_,_,_,[],_,[],hW',trodAll_mk1 (shut_bool Try.underlying4 _),(trodAll_cons_mk (Below.trod laidOut (by kernel_rfl) (of_decide_eq_true (by kernel_rfl)) k0 bel lt0) trodAll_mk0),rfl,bel.frame _,fun h=>by cases h⟩
theorem over:Rows.schedRightRow.holds Try.pinned (OpenSpec.ofChange Rows.schedRightSpec):=
 OpenClaim.holds_of_wide 5 Try.f5 rfl rfl rfl rfl rfl rfl rfl ⟨rfl,rfl,rfl,rfl,rfl⟩ rfl rfl rfl rfl rfl (by kernel_rfl) Try.func5 (by kernel_rfl)
  (of_decide_eq_true (by kernel_rfl)) (by unfold Func.isWrapper;first | (rw[if_pos (by decide +kernel)];kernel_rfl) | (rw[if_neg (by decide +kernel)];exact ⟨rfl,rfl⟩))
  (fun os started H enc _=>lifted os started H enc)
theorem proved:Rows.SchedRightSaid:=over
end Go.Proofs.Ytbhkdlpdolioaaa.schedRight
