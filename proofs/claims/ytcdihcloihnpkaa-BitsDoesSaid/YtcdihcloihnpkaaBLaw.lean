/-
  What all of bits' statements stand on.
-/
import Derived.Test.YtcdihcloihnpkaaBOpen
import Derived.Test.YtcdihcloihnpkaaBits6
import Derived.Deep.RegionHeld3
import Derived.Deep.RegionHeldLaw
import Derived.Deep.CutBlock
import Derived.Deep.DeepCutAuto
namespace Go.Proofs.Ytcdihcloihnpkaa.B
open Go.RowKit
set_option linter.unusedVariables false
theorem u64_nat {x : Int} (h : (Lit.int .u64 x).wf = true) : ∃ b : Nat, x = (b : Int) ∧ b < 2 ^ 64 := by
  obtain ⟨h1, h2⟩ := wf_u64 h
  obtain ⟨b, rfl⟩ := Int.eq_ofNat_of_zero_le h1
  exact ⟨b, rfl, by omega⟩
end Go.Proofs.Ytcdihcloihnpkaa.B
