/-
  An own copy of bytes; bytes that are turned, one after another.
-/
import Derived.Test.YtofhijnfbilieaaGreatDRef5
import Derived.Test.YtofhijnfbilieaaGreatDRef6
namespace Go.Proofs.YtofhijnfbilieaaGreat
open Go.RowKit Go.Maps
set_option linter.unusedVariables false
set_option linter.unusedSimpArgs false
set_option maxRecDepth 20000

/-- bytes onto an own row -/
theorem run_append_row (w : World) (ty : TypeId) (B : Nat) (a : Option Addr) (n cap : Nat) (l : List Value) (hown : Own 5 w B a n cap l) (A : Option Addr) (m c : Nat) (x : List UInt8) (hr : Row w A m c (u8s x))
    (hsum : n + m ≤ 1048576) (hB : B ≤ w.heap.size) :
    ∃ a' cap' w', (Builtin.append_ #[50, 50] ty #[.slice a n cap, .slice A m c]).run Tryz.prog w = .ok (.slice a' (n + m) cap') w' ∧ Own 5 w' B a' (n + m) cap' (l ++ u8s x) ∧ Below B w w' := by
  obtain ⟨i0, hi0, hz0, hz1, hz2⟩ := info_parts u8_info
  by_cases hm : 0 < m ∧ ∃ A', A = some A'
  · obtain ⟨h0, A', rfl⟩ := hm
    obtain ⟨a', cap', w', h1, h2, h3, h4⟩ := run_append_own' 50 5 i0 (.int .u8 0) 1 Tryz.underlying50 hi0 hz0 hz1 hz2 rfl (by omega) w ty B a n cap l hown A' m c (u8s x) hr h0 (u8s_one x) hsum hB
    exact ⟨a', cap', w', h1, h2, h4⟩
  · obtain ⟨h1, h2, h3⟩ := hown
    obtain ⟨r1, r2, r3, r4⟩ := hr
    have hx : u8s x = [] ∧ m = 0 := by
      rcases r4 with r4 | ⟨b, off, hb, _⟩
      · exact ⟨r4, by rw [← r1, r4]; rfl⟩
      · have h0 : m = 0 := by
          rcases Nat.eq_zero_or_pos m with h | h
          · exact h
          · exact absurd ⟨h, _, hb⟩ hm
        exact ⟨List.eq_nil_of_length_eq_zero (by omega), h0⟩
    obtain ⟨hx, rfl⟩ := hx
    rw [hx] at *
    cases A with
    | none =>
      refine ⟨a, cap, w, ?_, ⟨by simpa using h1, by simpa using h2, by omega⟩, Below.refl _ _⟩
      rcases h1.2 with ⟨hv, _⟩ | ⟨g, c', cur, hv, _, _, hnc, _⟩
      · injection hv with e1 e2 e3
        subst e1 e2 e3
        simp [Builtin.append_, run_underlying Tryz.underlying50, sizeOf, typeInfo, hi0, Builtin.lenOf, Builtin.firstCells]
      · injection hv with e1 e2 e3
        subst e1 e3
        simp [Builtin.append_, run_underlying Tryz.underlying50, sizeOf, typeInfo, hi0, Builtin.lenOf, Builtin.firstCells, hnc, storeCells]
    | some ad =>
      obtain ⟨v', w', hrun, h5, h6, _, h7⟩ := run_append_own_at (P := Tryz.prog) w B 50 ty 5 i0 (.int .u8 0) 1 1 Tryz.underlying50 hi0 hz0 hz1 hz2 rfl (by omega) _ n l h1 ad 0 c []
        rfl (fun j u hu => by simp at hu) (by simp) (by simp only [maxLen]; omega) (by omega) hB
      obtain ⟨a', cap', rfl⟩ : ∃ a' cap', v' = .slice a' (n + 0) cap' := by
        rcases h5.2 with ⟨rfl, h0⟩ | ⟨g, c', cur, rfl, _⟩
        · exact ⟨none, 0, by rw [h0]⟩
        · exact ⟨_, _, rfl⟩
      exact ⟨a', cap', w', hrun, ⟨h5, by simpa using h2, by omega⟩, (Below.refl _ _).grown h6 hB fun k hk => (h1.lt k hk).1⟩

theorem wpList_append_row {ops : Array Oper} {rest : List Oper} {o : Oper} {act : Act} {w : World} {Q : Exit → Act → World → Prop} (hgd : o.guard = none) (s x : Operand)
    (ho : o.op = .call { callee := .builtin .append, args := #[s, x], argTypes := #[50, 50] })
    (B : Nat) (a : Option Addr) (cap : Nat) (hs : act.eval s = .slice a 0 cap) (hown : Own 5 w B a 0 cap [])
    (A : Option Addr) (m c : Nat) (y : List UInt8) (hx : act.eval x = .slice A m c) (hr : Row w A m c (u8s y)) (hsum : m ≤ 1048576) (hB : B ≤ w.heap.size)
    (h : ∀ a' cap' w', Own 5 w' B a' m cap' (u8s y) → Below B w w' → wpList Tryz.prog ops Q rest (act.put o.dst (.slice a' m cap')) w') : wpList Tryz.prog ops Q (o :: rest) act w := by
  refine wpList_plain hgd fun K hK => ?_
  obtain ⟨a', cap', w', hrun, h2, h3⟩ := run_append_row w o.type B a 0 cap [] hown A m c y hr (by omega) hB
  rw [Nat.zero_add] at hrun h2
  unfold Oper.wp execOp
  simp only [ho, resolve, invoke, builtin, Sem.run_bind, Sem.run_pure, Result.andThen_ok, List.map_toArray, List.map_cons, List.map_nil, hs, hx, hrun]
  exact hK _ _ (h a' cap' w' h2 h3)

/-- bytes that may be written, in a block from B on -/
def Wr (w : World) (B : Nat) (a : Option Addr) (m : Nat) : Prop := m = 0 ∨ ∃ (b : Nat) (l : List UInt8), a = some ⟨b, 0, none⟩ ∧ l.length = m ∧ w.rangeAt b 0 (u8s l) ∧ w.there b 0 m ∧ B ≤ b ∧ b < w.heap.size

theorem Wr.of_own {w : World} {B : Nat} {a : Option Addr} {m cap : Nat} {l : List UInt8} (h : Own 5 w B a m cap (u8s l)) : Wr w B a m := by
  obtain ⟨h1, h2, h3⟩ := h
  rw [u8s_length] at h2
  rcases h1.2 with ⟨hv, h0⟩ | ⟨g, c', cur, hv, hg, hh, hn, hm, hs, ht⟩
  · exact .inl h0
  · injection hv with e1 e2 e3
    subst e1
    refine .inr ⟨g, l, rfl, h2, fun j v hj => ?_, fun j hj => ?_, hg, (h1.lt g rfl).2⟩
    · have hj' := (List.getElem?_eq_some_iff.1 hj).1
      rw [u8s_length] at hj'
      rw [Nat.zero_add]
      exact (World.ownsRow.cellAt h1 j (by omega)).trans hj
    · rw [Nat.zero_add]
      exact ⟨by rw [World.ownsRow.cellAt h1 j (by omega), List.getElem?_eq_getElem (by rw [u8s_length]; omega)]; rfl, World.ownsRow.frozenAt h1 j⟩
theorem Wr.but {w w' : World} {B : Nat} {a : Option Addr} {m : Nat} (h : Wr w B a m) {l : List Nat} (hb : But l w w') (hl : ∀ x ∈ l, x < B) : Wr w' B a m := by
  rcases h with h | ⟨b, l, h1, h2, h3, h4, h5, h6⟩
  · exact .inl h
  · have := hb.block b h6 (fun hm => by have := hl b hm; omega)
    exact .inr ⟨b, l, h1, h2, rangeAt_block h3 this, there_block h4 this, h5, Nat.lt_of_lt_of_le h6 hb.size⟩
theorem Wr.at {w : World} {B : Nat} {a : Option Addr} {m : Nat} (h : Wr w B a m) {k : Nat} (hk : k < m) : ∃ (b : Nat) (c : UInt8), a = some ⟨b, 0, none⟩ ∧ w.cell? ⟨b, k, none⟩ = some (.int .u8 (c.toNat : Int)) ∧ w.frozen? ⟨b, k, none⟩ = false ∧ B ≤ b ∧ b < w.heap.size ∧
    ∀ c' : UInt8, Wr (w.setCell ⟨b, k, none⟩ (.int .u8 (c'.toNat : Int))) B a m := by
  rcases h with h | ⟨b, l, h1, h2, h3, h4, h5, h6⟩
  · omega
  · have h7 := h3 k _ (u8s_get (List.getElem?_eq_getElem (show k < l.length by omega)))
    have h8 := h4 k hk
    rw [Nat.zero_add] at h7 h8
    exact ⟨b, _, h1, h7, h8.2, h5, h6, fun c' => .inr ⟨b, l.set k c', h1, by rw [List.length_set]; exact h2, range_set h3 (by omega), there_set h4 _ _, h5, by simpa [World.setCell] using h6⟩⟩
theorem turn_byte (c : UInt8) : bits .xor .u8 (c.toNat : Int) 1 = ((c ^^^ 1).toNat : Int) := by
  have h1 : c.toNat < 256 := c.toNat_lt
  have := u8_xor_nat c.toNat 1 h1 (by omega)
  simpa using this
theorem byte_range (c : UInt8) : (0 : Int) ≤ (c.toNat : Int) ∧ (c.toNat : Int) < 256 := by
  have h1 : c.toNat < 256 := c.toNat_lt
  omega
end Go.Proofs.YtofhijnfbilieaaGreat
