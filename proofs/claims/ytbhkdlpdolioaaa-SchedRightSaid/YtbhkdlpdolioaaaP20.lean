import Derived.Test.YtbhkdlpdolioaaaP19
set_option linter.unusedVariables false
set_option linter.unusedSimpArgs false
set_option maxHeartbeats 8000000
set_option maxRecDepth 100000
namespace Go.Proofs.Ytbhkdlpdolioaaa
open Go.RowKit
theorem abE (s:S8)(l m:List UInt8):∀ k,64*k≤l.length→aaf s (l++m) k=aaf s l k
 | 0,_=>rfl
 | k+1,h=>by
  rw[aap,aap,abE s l m k (by omega),List.drop_append_of_le_length (by omega),List.take_append_of_le_length (by simp;omega)]
theorem acA (s:S8)(P:List UInt8)(a:Nat):∀ k,aaf (aaf s P a) (P.drop (64*a)) k=aaf s P (a+k)
 | 0=>rfl
 | k+1=>by
  rw[aap,acA s P a k,List.drop_drop,show a+(k+1)=(a+k)+1 by omega,aap,show 64*a+64*k=64*(a+k) by omega]
theorem adh (l:List UInt8)(N M:Nat)(hN:N=l.length / 64)(hM:64*M=(l.drop (64*N)++pad l.length).length):
  aam l=(aaf (aaf aav l N) (l.drop (64*N)++pad l.length) M).bytes:=by
 have h1:(aaV l).length=64*(N+M):=by
  unfold aaV;rw[List.length_append] at hM ⊢;rw[List.length_drop] at hM;omega
 have h2:(aaV l).length / 64=N+M:=by omega
 have h3:l.drop (64*N)++pad l.length=(aaV l).drop (64*N):=by
  unfold aaV;rw[List.drop_append_of_le_length (by omega)]
 unfold aam;rw[h2,h3,← acA];have h4:aaf aav (aaV l) N=aaf aav l N:=abE _ _ _ _ (by omega);rw[h4]
theorem ad9 (l:List UInt8)(N:Nat)(hN:N=l.length / 64):64*((l.drop (64*N)++pad l.length).length / 64)=(l.drop (64*N)++pad l.length).length:=by
 have:=ac4 l.length;rw[List.length_append,List.length_drop];omega
end Go.Proofs.Ytbhkdlpdolioaaa
