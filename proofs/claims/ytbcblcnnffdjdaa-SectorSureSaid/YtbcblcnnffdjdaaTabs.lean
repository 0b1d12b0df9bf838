/-
  A slice of rows that a call makes itself, each row a block of 144 bytes of its own.
-/
import Derived.Test.YtbcblcnnffdjdaaOwn
namespace Go.Proofs.Ytbcblcnnffdjdaa
open Go.RowKit
set_option linter.unusedVariables false
set_option linter.unusedSimpArgs false
set_option maxRecDepth 20000

def cell144 (b : Nat) : Value := .slice (some ⟨b, 0, none⟩) 144 144

/-- k rows; if q, the i-th one is of the bytes f i -/
def Tab (q : Bool) (w : World) (B : Nat) (a : Option Addr) (k cap : Nat) (f : Nat → List UInt8) : Prop :=
  ∃ vs, Own 28 w B a k cap vs ∧ (q = true → ∃ bs : List Nat, vs = bs.map cell144 ∧ ∀ i b, bs[i]? = some b → B ≤ b ∧ b < w.heap.size ∧ w.rangeAt b 0 (u8s (f i)) ∧ ∀ off, a ≠ some ⟨b, off, none⟩)

theorem Tab.but {q : Bool} {w w' : World} {B : Nat} {a : Option Addr} {k cap : Nat} {f : Nat → List UInt8} (h : Tab q w B a k cap f) {l : List Nat} (hb : But l w w') (hl : ∀ x ∈ l, x < B) : Tab q w' B a k cap f := by
  obtain ⟨vs, ho, hq⟩ := h
  refine ⟨vs, ho.but hb hl, fun e => ?_⟩
  obtain ⟨bs, h1, h2⟩ := hq e
  refine ⟨bs, h1, fun i b hi => ?_⟩
  obtain ⟨g1, g2, g3, g4⟩ := h2 i b hi
  exact ⟨g1, Nat.lt_of_lt_of_le g2 hb.size, rangeAt_block g3 (hb.block b g2 (fun hm => by have := hl b hm; omega)), g4⟩

theorem tab_nil (q : Bool) (w : World) (B : Nat) (hB : B ≤ w.heap.size) (f : Nat → List UInt8) : Tab q (w.alloc (.cells #[] 28)) B (some ⟨w.heap.size, 0, none⟩) 0 0 f :=
  ⟨[], own_lit 28 w B [] hB (by simp), fun _ => ⟨[], rfl, by simp⟩⟩

theorem Tab.get {w : World} {B : Nat} {a : Option Addr} {k cap : Nat} {f : Nat → List UInt8} (h : Tab true w B a k cap f) {i : Nat} (hi : i < k) :
    ∃ g b, a = some ⟨g, 0, none⟩ ∧ w.cell? ⟨g, i, none⟩ = some (cell144 b) ∧ w.rangeAt b 0 (u8s (f i)) ∧ b < w.heap.size := by
  obtain ⟨vs, ho, hq⟩ := h
  obtain ⟨bs, rfl, h2⟩ := hq rfl
  have hlen := ho.2.1
  rw [List.length_map] at hlen
  obtain ⟨hrow, hab⟩ := ho.row
  obtain ⟨b, hb⟩ : ∃ b, bs[i]? = some b := ⟨bs[i]'(by omega), List.getElem?_eq_getElem _⟩
  obtain ⟨g1, g2, g3, g4⟩ := h2 i b hb
  rcases hrow.2.2.2 with h0 | ⟨g, off, e, hg, hc⟩
  · have : bs = [] := by simpa using h0
    subst this
    simp at hb
  · obtain ⟨_, rfl⟩ := hab g off e
    refine ⟨g, b, e, ?_, g3, g2⟩
    have := hc i hi
    rw [Nat.zero_add] at this
    rw [this]
    simp [hb]

section
variable {ops : Array Oper} {rest : List Oper} {o : Oper} {a : Act} {w : World} {Q : Exit → Act → World → Prop}
/-- append of one row, that lies in a new block as the element -/
theorem wpList_append_tab (hg : o.guard = none) (x y : Operand) (ho : o.op = Op.call { callee := Callee.builtin Builtin.append, args := #[x, y], argTypes := #[52, 52] })
    (q : Bool) (B : Nat) (A : Option Addr) (n cap : Nat) (f : Nat → List UInt8) (hx : a.eval x = .slice A n cap) (hown : Tab q w B A n cap f) (g c : Nat) (u : Value) (hy : a.eval y = .slice (some ⟨g, 0, none⟩) 1 c) (hr : Row w (some ⟨g, 0, none⟩) 1 c [u]) (h1 : u.oneCell' = true)
    (hu : q = true → ∃ b, u = cell144 b ∧ B ≤ b ∧ b < w.heap.size ∧ w.rangeAt b 0 (u8s (f n)) ∧ ∀ off, A ≠ some ⟨b, off, none⟩)
    (hsum : n + 1 ≤ 1048576) (hB : B ≤ w.heap.size)
    (h : ∀ A' cap' w', Tab q w' B A' (n + 1) cap' f → w.grownBy w' (Value.slice A n cap).ownBlock → Below B w w' → ((Value.slice A' (n + 1) cap').ownBlock = (Value.slice A n cap).ownBlock ∨ (Value.slice A' (n + 1) cap').ownBlock = some w.heap.size) → wpList Try.prog ops Q rest (a.put o.dst (.slice A' (n + 1) cap')) w') : wpList Try.prog ops Q (o :: rest) a w := by
  refine wpList_plain hg fun K hK => ?_
  obtain ⟨i0, hi0, hz0, hz1, hz2⟩ := info_parts row_info
  obtain ⟨vs, hown, hq⟩ := hown
  obtain ⟨g1, g2, g3⟩ := hown
  obtain ⟨r1, r2, r2', r4⟩ := hr
  rcases r4 with r4 | ⟨b, off, hA, hb, hc⟩
  · simp at r4
  injection hA with hA
  injection hA with hA1 hA2 _
  subst hA1 hA2
  obtain ⟨v', w', hrun, h5, h6, _, h7⟩ := run_append_own_at (P := Try.prog) w B 52 o.type 28 i0 _ 1 24 Try.underlying52 hi0 hz0 hz1 hz2 rfl (by omega) _ n vs g1 ⟨g, 0, none⟩ 1 c [u]
    (by simp) (fun j v hj => by
      have hjl : j < 1 := by have := (List.getElem?_eq_some_iff.1 hj).1; simpa using this
      rw [Addr.add_mid, hc j hjl, hj]) (by simpa using h1) (by simp only [maxLen]; omega) (by omega) hB
  obtain ⟨A', cap', rfl⟩ : ∃ A' cap', v' = .slice A' (n + 1) cap' := by
    rcases h5.2 with ⟨rfl, h0⟩ | ⟨g, c', cur, rfl, _⟩
    · exact ⟨none, 0, by rw [h0]⟩
    · exact ⟨_, _, rfl⟩
  have hbl : Below B w w' := (Below.refl _ _).grown h6 hB fun k hk => (g1.lt k hk).1
  have htab : Tab q w' B A' (n + 1) cap' f := by
    refine ⟨vs ++ [u], ⟨h5, by rw [List.length_append, g2]; rfl, by omega⟩, fun e => ?_⟩
    obtain ⟨bs, h8, h9⟩ := hq e
    obtain ⟨b, rfl, k1, k2, k3, k4⟩ := hu e
    have hl : bs.length = n := by rw [← g2, h8, List.length_map]
    have keep : ∀ b, B ≤ b → b < w.heap.size → (∀ off, A ≠ some ⟨b, off, none⟩) → w'.heap[b]? = w.heap[b]? ∧ ∀ off, A' ≠ some ⟨b, off, none⟩ := fun b _ h2 h3 => by
      refine ⟨h6.block b h2 (fun e => ?_), fun off e => ?_⟩
      · cases A with
        | none => simp [Value.ownBlock] at e
        | some x =>
          obtain ⟨xb, xo, xs⟩ := x
          rcases g1.2 with ⟨hv, _⟩ | ⟨g', c', cur, hv, _⟩
          · cases hv
          · injection hv with hv
            simp only [Value.ownBlock, Option.some.injEq] at e
            injection hv with hv
            injection hv with e1 e2 e3
            subst e1 e2 e3
            exact h3 0 (by rw [e])
      · subst e
        rcases h7 with h7 | h7
        · cases A with
          | none => simp [Value.ownBlock] at h7
          | some x =>
            obtain ⟨xb, xo, xs⟩ := x
            rcases g1.2 with ⟨hv, _⟩ | ⟨g', c', cur, hv, _⟩
            · cases hv
            · injection hv with hv
              injection hv with hv
              injection hv with e1 e2 e3
              subst e1 e2 e3
              simp only [Value.ownBlock, Option.some.injEq] at h7
              exact h3 0 (by rw [h7])
        · simp only [Value.ownBlock, Option.some.injEq] at h7
          omega
    refine ⟨bs ++ [b], by rw [h8, List.map_append]; rfl, fun i b' hi => ?_⟩
    by_cases hil : i < bs.length
    · rw [List.getElem?_append_left hil] at hi
      obtain ⟨m1, m2, m3, m4⟩ := h9 i b' hi
      obtain ⟨p1, p2⟩ := keep b' m1 m2 m4
      exact ⟨m1, Nat.lt_of_lt_of_le m2 hbl.size, rangeAt_block m3 p1, p2⟩
    · rw [List.getElem?_append_right (by omega)] at hi
      have hi0 : i - bs.length = 0 := by have := (List.getElem?_eq_some_iff.1 hi).1; simp at this; omega
      rw [hi0] at hi
      simp only [List.getElem?_cons_zero, Option.some.injEq] at hi
      subst hi
      obtain rfl : i = n := by omega
      obtain ⟨p1, p2⟩ := keep b k1 k2 k4
      exact ⟨k1, Nat.lt_of_lt_of_le k2 hbl.size, rangeAt_block k3 p1, p2⟩
  unfold Oper.wp
  simp [execOp, ho, resolve, invoke, builtin, hx, hy, hrun, Result.andThen]
  exact hK _ _ (h A' cap' w' htab h6 hbl h7)
end
end Go.Proofs.Ytbcblcnnffdjdaa
