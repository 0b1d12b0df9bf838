/-
  A load of the document's own row behind a guard that is met.
-/
import Derived.Test.YtcdihcloihnpkaaBSame
namespace Go.Proofs.Ytcdihcloihnpkaa.B
open Go.RowKit
set_option linter.unusedVariables false
theorem wpList_load30g {ops : Array Oper} {rest : List Oper} {o : Oper} {a : Act} {w : World} {Q : Exit → Act → World → Prop} {n m : Nat} (hw : Region.wanted o (yielded ops a.tmps) = true) (x : Operand) (ho : o.op = .load 30 x) (b : Nat) (hx : a.eval x = .pointer (some ⟨b, 0, none⟩)) (hc : RAt w b n m)
    (h : wpList Try.prog ops Q rest (a.put o.dst (RV n m)) w) : wpList Try.prog ops Q (o :: rest) a w :=
  wpList_step fun K hK => by
    rw [if_pos hw]
    exact wp_load_mid 30 x ho b 0 hx (rl n m) _ hc.range Try.underlying30 rfl (by rw [size30, rl_len]) (hK _ _ h)
end Go.Proofs.Ytcdihcloihnpkaa.B
