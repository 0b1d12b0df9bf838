/-
  Items that are numbered one behind the other.
-/
import Derived.Test.YtcnmkojlledipaaMrOpen
namespace Go.Proofs.Ytcnmkojlledipaa.Mr
open Go.RowKit
set_option linter.unusedVariables false
set_option linter.unusedSimpArgs false
set_option maxRecDepth 20000

/-- items numbered from b + 1 on -/
def numb : Int → List It → List It
  | _, [] => []
  | b, x :: l => x.no (b + 1) :: numb (b + 1) l
theorem numb_length : ∀ (b : Int) (l : List It), (numb b l).length = l.length
  | _, [] => rfl
  | b, x :: l => by simp [numb, numb_length (b + 1) l]
theorem numb_get : ∀ (b : Int) (l : List It) (i : Nat) (x : It), l[i]? = some x → (numb b l)[i]? = some (x.no (b + (i : Int) + 1))
  | b, [], i, x, h => by simp at h
  | b, q :: l, 0, x, h => by simp at h; subst h; simp [numb]
  | b, q :: l, i + 1, x, h => by
    have := numb_get (b + 1) l i x (by simpa using h)
    simp only [numb, List.getElem?_cons_succ]
    rw [this, show b + 1 + (i : Int) + 1 = b + ((i + 1 : Nat) : Int) + 1 by omega]
theorem numb_add : ∀ (b : Int) (l : List It) (x : It), numb b (l ++ [x]) = numb b l ++ [x.no (b + (l.length : Int) + 1)]
  | b, [], x => by simp [numb]
  | b, q :: l, x => by
    simp only [List.cons_append, numb, numb_add (b + 1) l x, List.length_cons]
    rw [show b + 1 + (l.length : Int) + 1 = b + ((l.length + 1 : Nat) : Int) + 1 by omega]
theorem numb_drop : ∀ (b : Int) (l : List It) (k : Nat), (numb b l).drop k = numb (b + (k : Int)) (l.drop k)
  | b, l, 0 => by simp
  | b, [], k + 1 => by simp [numb]
  | b, x :: l, k + 1 => by
    simp only [numb, List.drop_succ_cons, numb_drop (b + 1) l k]
    rw [show b + 1 + (k : Int) = b + ((k + 1 : Nat) : Int) by omega]

/-- behind Add: one item more -/
theorem add_numb {b : Int} {l : List It} (x : It) (h : b + (l.length : Int) < 4611686018427387904) : addN b (numb b l) = b + (l.length : Int) + 1 ∧ addE b (numb b l) = 0 ∧ addL b (numb b l) x = numb b (l ++ [x]) := by
  have e : last b (numb b l) = b + (l.length : Int) := by unfold last; rw [numb_length]
  unfold addN addE addL
  rw [e, if_pos h, if_pos h, if_pos h, numb_add]
  exact ⟨rfl, rfl, rfl⟩
/-- behind Ack: the rest -/
theorem ack_numb_yes {b : Int} {a k : Nat} {l : List It} (h : a < k) (h2 : k ≤ l.length) : ackB (b + a) (numb (b + a) (l.drop a)) (b + k) = true ∧ ackA (b + a) (numb (b + a) (l.drop a)) (b + k) = b + k ∧ ackL (b + a) (numb (b + a) (l.drop a)) (b + k) = numb (b + k) (l.drop k) := by
  have e : last (b + a) (numb (b + a) (l.drop a)) = b + (l.length : Int) := by unfold last; rw [numb_length, List.length_drop]; omega
  have hb : ackB (b + a) (numb (b + a) (l.drop a)) (b + k) = true := by unfold ackB; rw [e]; simp; omega
  unfold ackA ackL
  rw [if_pos hb, if_pos hb, numb_drop, List.drop_drop, show a + (b + (k : Int) - (b + (a : Int))).toNat = k by omega, show b + (a : Int) + ((b + (k : Int) - (b + (a : Int))).toNat : Int) = b + k by omega]
  exact ⟨hb, rfl, rfl⟩
theorem ack_numb_no {b q : Int} {a : Nat} {l : List It} (ha : a ≤ l.length) (h : q ≤ b + a ∨ b + (l.length : Int) < q) : ackB (b + a) (numb (b + a) (l.drop a)) q = false ∧ ackA (b + a) (numb (b + a) (l.drop a)) q = b + a ∧ ackL (b + a) (numb (b + a) (l.drop a)) q = numb (b + a) (l.drop a) := by
  have e : last (b + a) (numb (b + a) (l.drop a)) = b + (l.length : Int) := by unfold last; rw [numb_length, List.length_drop]; omega
  have hb : ackB (b + a) (numb (b + a) (l.drop a)) q = false := by
    unfold ackB; rw [e]
    rcases h with h | h
    · simp; omega
    · simp; omega
  have hb' : ¬ ackB (b + a) (numb (b + a) (l.drop a)) q = true := by rw [hb]; simp
  unfold ackA ackL
  rw [if_neg hb', if_neg hb']
  exact ⟨hb, rfl, rfl⟩
end Go.Proofs.Ytcnmkojlledipaa.Mr
