/-
  Rows of bytes that a call makes itself: what an append onto one leaves, that it is read as a row, and what a byte that is written to it leaves.
-/
import Derived.Test.YtoaebaglahhpbaaWalks
import Derived.Maps.AppendAt
import Derived.OwnWalk
namespace Go.Proofs.Ytoaebaglahhpbaa
open Go.RowKit
set_option linter.unusedVariables false
set_option linter.unusedSimpArgs false

theorem u8_info : (Try.prog.info? 5).map (fun i => (i.zero, i.size, i.bytes)) = some (some (.int .u8 0), 1, 1) := by kernel_rfl

abbrev u8s (l : List Int) : List Value := l.map (Value.int .u8)

/-- a row of the call's own, from block B on, that holds the bytes l -/
def Own (w : World) (B : Nat) (a : Option Addr) (n cap : Nat) (l : List Int) : Prop :=
  w.ownsRow B 5 1 (.slice a n cap) n (u8s l) ∧ l.length = n ∧ n ≤ 140737488355328 ∧ ∀ x ∈ l, 0 ≤ x ∧ x < 256

theorem own_empty (w : World) (B : Nat) (hB : B ≤ w.heap.size) : Own (w.alloc (.cells #[] 5)) B (some ⟨w.heap.size, 0, none⟩) 0 0 [] :=
  ⟨World.ownsRow_made w #[] 0 hB (Nat.zero_le _) rfl, rfl, by omega, by simp⟩

theorem own_row {w : World} {B : Nat} {a : Option Addr} {n cap : Nat} {l : List Int} (h : Own w B a n cap l) : Row w a n l := by
  obtain ⟨h1, h2, h3, h4⟩ := h
  refine ⟨h2, h3, h4, ?_⟩
  by_cases h0 : l = []
  · exact .inl h0
  · refine .inr ?_
    rcases h1.2 with ⟨_, h'⟩ | ⟨g, c, cur, hv, _, hh, hn, hm, hs, ht⟩
    · exact absurd (List.eq_nil_of_length_eq_zero (by omega)) h0
    · injection hv with e1 e2 e3
      subst e1
      subst e3
      refine ⟨g, 0, rfl, fun i hi => ?_⟩
      have := World.ownsRow.cellAt h1 i (by omega)
      rw [Nat.zero_add, this]
      simp [u8s, List.getD_eq_getElem?_getD, hi]

theorem own_below {w w' : World} {B : Nat} {a : Option Addr} {n cap : Nat} {l : List Int} (h : Own w B a n cap l) {row : Option Nat} (hg : w.grownBy w' row)
    (hne : (Value.slice a n cap).ownBlock = none ∨ (Value.slice a n cap).ownBlock ≠ row) : Own w' B a n cap l :=
  ⟨h.1.kept hg hne, h.2⟩

theorem run_append_bytes (w : World) (ty : TypeId) (B : Nat) (a : Option Addr) (n cap : Nat) (l : List Int) (hown : Own w B a n cap l) (A : Option Addr) (m c : Nat) (x : List Int) (hr : Row w A m x)
    (hsum : n + m ≤ 140737488355328) (hB : B ≤ w.heap.size) :
    ∃ a' cap' w', (Builtin.append_ #[22, 22] ty #[.slice a n cap, .slice A m c]).run Try.prog w = .ok (.slice a' (n + m) cap') w' ∧ Own w' B a' (n + m) cap' (l ++ x) ∧ Below B w w' := by
  obtain ⟨i0, hi0, hz0, hz1, hz2⟩ := info_parts u8_info
  obtain ⟨h1, h2, h3, h4⟩ := hown
  obtain ⟨r1, r2, r3, r4⟩ := hr
  have hrange : ∀ y ∈ l ++ x, 0 ≤ y ∧ y < 256 := by
    intro y hy
    rcases List.mem_append.1 hy with hy | hy
    · exact h4 y hy
    · exact r3 y hy
  have hlen : (l ++ x).length = n + m := by rw [List.length_append, h2, r1]
  cases A with
  | none =>
    have hx : x = [] := by
      rcases r4 with r4 | ⟨b, off, hb, _⟩
      · exact r4
      · cases hb
    subst hx
    have hm : m = 0 := by simpa using r1.symm
    subst hm
    refine ⟨a, cap, w, ?_, ⟨by simpa using h1, by simpa using h2, by omega, by simpa using h4⟩, Below.refl _ _⟩
    rcases h1.2 with ⟨hv, _⟩ | ⟨g, c', cur, hv, _, _, hnc, _⟩
    · injection hv with e1 e2 e3
      subst e1 e2 e3
      simp [Builtin.append_, run_underlying Try.underlying22, sizeOf, typeInfo, hi0, Builtin.lenOf, Builtin.firstCells]
    · injection hv with e1 e2 e3
      subst e1 e3
      simp [Builtin.append_, run_underlying Try.underlying22, sizeOf, typeInfo, hi0, Builtin.lenOf, Builtin.firstCells, hnc, storeCells]
  | some ad =>
    have hcells : ∀ j u, (u8s x)[j]? = some u → w.cell? (ad.add j) = some u := by
      intro j u hu
      rcases r4 with r4 | ⟨b, off, hb, hc⟩
      · subst r4; simp at hu
      · injection hb with hb
        subst hb
        have hj : j < x.length := by
          rcases Nat.lt_or_ge j x.length with h | h
          · exact h
          · simp [u8s, List.getElem?_eq_none h] at hu
        have := hc j hj
        rw [show ((⟨b, off, none⟩ : Addr).add j) = ⟨b, off + j, none⟩ from by by_cases g : j = 0 <;> simp [Addr.add, g]]
        rw [this]
        simp [u8s, hj, List.getD_eq_getElem?_getD] at hu ⊢
        exact hu
    obtain ⟨v', w', hrun, h5, h6, _, h7⟩ := run_append_own_at (P := Try.prog) w B 22 ty 5 i0 (.int .u8 0) 1 1 Try.underlying22 hi0 hz0 hz1 hz2 rfl (by omega) _ n (u8s l) h1 ad m c (u8s x)
      (by simpa using r1) hcells (ints_oneCell .u8 x) (by simp only [maxLen]; omega) (by omega) hB
    have hlt := h5.lt
    obtain ⟨a', cap', rfl⟩ : ∃ a' cap', v' = .slice a' (n + m) cap' := by
      rcases h5.2 with ⟨rfl, h0⟩ | ⟨g, c', cur, rfl, _⟩
      · exact ⟨none, 0, by rw [h0]⟩
      · exact ⟨_, _, rfl⟩
    refine ⟨a', cap', w', hrun, ⟨by rw [u8s, List.map_append]; exact h5, hlen, hsum, hrange⟩, (Below.refl _ _).grown h6 hB fun k hk => (h1.lt k hk).1⟩

theorem wpList_append_bytes (w : World) {ops : Array Oper} {rest : List Oper} {o : Oper} {act : Act} {Q : Exit → Act → World → Prop} (hgd : o.guard = none) (s x : Operand)
    (ho : o.op = .call { callee := .builtin .append, args := #[s, x], argTypes := #[22, 22] })
    (B : Nat) (a : Option Addr) (n cap : Nat) (l : List Int) (hs : act.eval s = .slice a n cap) (hown : Own w B a n cap l)
    (A : Option Addr) (m c : Nat) (y : List Int) (hx : act.eval x = .slice A m c) (hr : Row w A m y)
    (k : Nat) (hk : n + m = k) (ly : List Int) (hly : l ++ y = ly) (hsum : k ≤ 140737488355328) (hB : B ≤ w.heap.size)
    (h : ∀ a' cap' w', Own w' B a' k cap' ly → Below B w w' → wpList Try.prog ops Q rest (act.put o.dst (.slice a' k cap')) w') : wpList Try.prog ops Q (o :: rest) act w := by
  subst hk
  subst hly
  refine wpList_plain hgd fun K hK => ?_
  obtain ⟨a', cap', w', hrun, h2, h3⟩ := run_append_bytes w o.type B a n cap l hown A m c y hr hsum hB
  unfold Oper.wp execOp
  simp only [ho, resolve, invoke, builtin, Sem.run_bind, Sem.run_pure, Result.andThen_ok, List.map_toArray, List.map_cons, List.map_nil, hs, hx, hrun]
  exact hK _ _ (h a' cap' w' h2 h3)
end Go.Proofs.Ytoaebaglahhpbaa
