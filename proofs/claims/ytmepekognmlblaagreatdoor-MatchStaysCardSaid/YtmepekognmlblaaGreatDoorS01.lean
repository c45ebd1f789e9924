import Derived.ProofKit
set_option linter.unusedVariables false
namespace Go.Proofs.YtmepekognmlblaaGreatDoor
end Go.Proofs.YtmepekognmlblaaGreatDoor
namespace Go.Proofs
theorem ω{p:Prop}(m:p:=by omega):p:=m
theorem δ{p:Prop}(m:p:=by decide):p:=m
theorem χ{p:Prop}(m:p:=by kernel_rfl):p:=m
theorem ψ{p:Prop}(m:p:=by simp):p:=m
