/-
  A map from numbers to true, as the set of its numbers.
-/
import Derived.Test.YtbcblcnnffdjdaaOpen
namespace Go.Proofs.Ytbcblcnnffdjdaa
open Go.RowKit Go.Maps
set_option linter.unusedVariables false
set_option linter.unusedSimpArgs false
set_option maxRecDepth 20000

/-- block sb is a map that holds true just at the numbers of F -/
def SetIs (w : World) (sb : Nat) (F : Int → Bool) : Prop :=
  ∃ N D, w.ownsMap (H := Unit) Try.prog 3 (plainElem Try.prog 4) sb N D ∧ N ≤ 1000000 ∧ IsMap D ∧ (∀ k, has D (.int .i64 k) = F k) ∧ ∀ k, F k = true → ∀ z, D.atKey (.int .i64 k) z = .lit (.bool true)

theorem SetIs.lt {w : World} {sb : Nat} {F : Int → Bool} (h : SetIs w sb F) : sb < w.heap.size := by
  obtain ⟨N, D, h, _⟩ := h
  exact h.lt
theorem SetIs.of_block {w w' : World} {sb : Nat} {F : Int → Bool} (h : SetIs w sb F) (hb : w'.heap[sb]? = w.heap[sb]?) : SetIs w' sb F := by
  obtain ⟨N, D, ⟨es, clock, h1, h2⟩, h3⟩ := h
  exact ⟨N, D, ⟨es, clock, hb.trans h1, h2⟩, h3⟩
theorem SetIs.but {w w' : World} {sb : Nat} {F : Int → Bool} (h : SetIs w sb F) {l : List Nat} (hb : But l w w') (hn : sb ∉ l) : SetIs w' sb F := h.of_block (hb.block sb h.lt hn)
theorem set_made (w : World) : SetIs (w.alloc (.map #[] 0)) w.heap.size fun _ => false := ⟨0, _, World.ownsMap_made w _ _ _, by omega, isMap_empty, fun k => rfl, fun k h => by cases h⟩
theorem SetIs.same {w : World} {sb : Nat} {F G : Int → Bool} (h : SetIs w sb F) (e : ∀ k, F k = G k) : SetIs w sb G := by
  obtain rfl : F = G := funext e
  exact h

theorem bool_zero (w : World) : (zeroValue 4).run Try.prog w = .ok (.bool false) w := Try.zeroValue4 w

theorem set_look {w : World} {sb : Nat} {F : Int → Bool} (h : SetIs w sb F) {i : Int} (h1 : -9223372036854775808 ≤ i) (h2 : i ≤ 9223372036854775807) :
    (Instr.lookup 53 (.map (some sb)) (.int .i64 i) false).run Try.prog w = .ok (.bool (F i)) w := by
  obtain ⟨N, D, hown, _, hm, hh, ha⟩ := h
  obtain ⟨v, ps, hrun, hv⟩ := hown.lookup (int_keyed Try.underlying3) Try.underlying53 (bool_zero w) (plainElem_bool Try.underlying4 false) (key_ok h1 h2)
  rw [hrun]
  have key : ∀ x : Bool, plainElem (H := Unit) Try.prog 4 v = some (.lit (.bool x), ps) → v = .bool x := by
    intro x hx
    unfold plainElem at hx
    rw [Try.underlying4] at hx
    cases v <;> simp at hx
    rw [hx.1]
  cases hF : F i with
  | false =>
    have : has D (.int .i64 i) = false := by rw [hh, hF]
    rw [atKey_of_not_has this] at hv
    rw [key false hv]
  | true =>
    rw [ha i hF] at hv
    rw [key true hv]

theorem set_put {w : World} {sb : Nat} {F : Int → Bool} (h : SetIs w sb F) {i : Int} (h1 : -9223372036854775808 ≤ i) (h2 : i ≤ 9223372036854775807) (hb : ∀ k, F k = true → 0 ≤ k ∧ k < 512) :
    ∃ w', (Instr.mapUpdate 53 (.map (some sb)) (.int .i64 i) (.bool true)).run Try.prog w = .ok () w' ∧ SetIs w' sb (fun k => if k = i then true else F k) ∧ But [sb] w w' := by
  obtain ⟨N, D, hown, hN, hm, hh, ha⟩ := h
  have hsz : Maps.size D ≤ 512 := by
    obtain ⟨es, rfl, hp, hk⟩ := hown.entries (int_keyed Try.underlying3)
    obtain ⟨es', e, hk'⟩ := hown.keysOf
    injection e with e
    subst e
    have hk2 : ∀ p ∈ es, ∃ x, p.1 = .int .i64 x := fun p hp' => by
      obtain ⟨v, hv⟩ := hk' p hp'
      obtain ⟨x, _, hx, _⟩ := Maps.keyOf_i64 Try.underlying3 hv
      exact ⟨x, hx⟩
    have hperm : (M.pendL 512 (fun k => if F k then some [] else none)).Perm (intKeys (.map es : DataW Unit)) := by
      refine perm_intKeys hp hk2 ?_ fun x => ?_
      · exact (M.pendL_rising _ _).imp fun h => by omega
      · rw [M.mem_pendL (fun k s hk => by
          cases hF : F k with
          | false => rw [hF] at hk; simp at hk
          | true => exact hb k hF), hh]
        cases F x <;> simp
    have h3 : (intKeys (.map es : DataW Unit)).length = es.length := by simp [intKeys]
    have h4 := hperm.length_eq
    have h5 := M.pendL_len 512 (fun k => if F k then some [] else none)
    rw [size_eq]
    omega
  have hown' : w.ownsMap (H := Unit) Try.prog 3 (plainElem Try.prog 4) sb 512 D := by
    obtain ⟨es, clock, hb, Ft, _, rfl⟩ := hown
    exact ⟨es, clock, hb, Ft, by simpa [Maps.size, length_sorted] using hsz, rfl⟩
  obtain ⟨w', r1, r2, r3⟩ := hown'.update (int_keyed Try.underlying3) Try.underlying53 (by simp only [maxLen]; omega) (key_ok h1 h2) (plainElem_bool Try.underlying4 true)
  refine ⟨w', r1, ⟨_, _, r2, by omega, hm.put _ _, fun k => ?_, fun k hk z => ?_⟩, (But.refl _ _).grown r3 fun k hk => by injection hk with hk; subst hk; exact .inl (by simp)⟩
  · show _ = if k = i then true else F k
    by_cases e : k = i
    · subst e; rw [if_pos rfl, has_put_same hm (is_key h1 h2)]
    · rw [if_neg e, has_put_other (fun e' => e (by injection e')), hh]
  · have hk : (if k = i then true else F k) = true := hk
    by_cases e : k = i
    · subst e; exact atKey_put_same hm (is_key h1 h2) _ _
    · rw [if_neg e] at hk
      rw [atKey_put_other (fun e' => e (by injection e'))]
      exact ha k hk z

theorem set_len {w : World} {sb n : Nat} {P : Int → Option M.Sec} (h : SetIs w sb fun k => (P k).isSome) (hP : ∀ k s, P k = some s → 0 ≤ k ∧ k < (n : Int)) (ty : TypeId) :
    (Builtin.len_ #[53] ty #[.map (some sb)]).run Try.prog w = .ok (.int .i64 (M.pendL n P).length) w := by
  obtain ⟨N, D, hown, _, hm, hh, ha⟩ := h
  rw [hown.len Try.underlying53 ty]
  obtain ⟨es, rfl, hp, hk⟩ := hown.entries (int_keyed Try.underlying3)
  obtain ⟨es', e, hk'⟩ := hown.keysOf
  injection e with e
  subst e
  have hk2 : ∀ p ∈ es, ∃ x, p.1 = .int .i64 x := fun p hp' => by
    obtain ⟨v, hv⟩ := hk' p hp'
    obtain ⟨x, _, hx, _⟩ := Maps.keyOf_i64 Try.underlying3 hv
    exact ⟨x, hx⟩
  have hperm : (M.pendL n P).Perm (intKeys (.map es : DataW Unit)) := by
    refine perm_intKeys hp hk2 ?_ fun x => ?_
    · exact (M.pendL_rising _ _).imp fun h => by omega
    · rw [M.mem_pendL hP, hh]
  have h3 : (intKeys (.map es : DataW Unit)).length = es.length := by simp [intKeys]
  rw [size_eq, ← h3, hperm.length_eq]

section
variable {ops : Array Oper} {rest : List Oper} {o : Oper} {a : Act} {w : World} {Q : Exit → Act → World → Prop}
/-- s[i] = true -/
theorem wpList_set_put (hg : o.guard = none) (m x : Operand) (ho : o.op = Op.mapUpdate 53 m x (Operand.const (.bool true))) (sb : Nat) (hm : a.eval m = .map (some sb)) (i : Int) (hx : a.eval x = .int .i64 i)
    {F : Int → Bool} (hF : SetIs w sb F) (hb : ∀ k, F k = true → 0 ≤ k ∧ k < 512) (h1 : -9223372036854775808 ≤ i) (h2 : i ≤ 9223372036854775807)
    (h : ∀ w', SetIs w' sb (fun k => if k = i then true else F k) → But [sb] w w' → wpList Try.prog ops Q rest (a.put o.dst undef) w') : wpList Try.prog ops Q (o :: rest) a w := by
  refine wpList_plain hg fun K hK => ?_
  obtain ⟨w', hrun, hm', hb⟩ := set_put hF h1 h2 hb
  have hc : a.eval (Operand.const (.bool true)) = .bool true := rfl
  unfold Oper.wp
  simp [execOp, ho, hm, hx, hc, hrun, Result.andThen]
  exact hK _ _ (h w' hm' hb)
end
end Go.Proofs.Ytbcblcnnffdjdaa
