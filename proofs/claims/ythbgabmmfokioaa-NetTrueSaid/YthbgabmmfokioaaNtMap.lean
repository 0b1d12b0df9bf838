/-
  Maps from letters to numbers in memory: letters as keys; what a map holds, letter by letter.
-/
import Derived.Test.YthbgabmmfokioaaNtOpen
import Derived.DeepKeys4
import Derived.Maps.OwnSet
import Derived.Maps.RangeWalk
import Derived.WideKeyEntry
import Derived.Maps.Views
namespace Go.Proofs.Ythbgabmmfokioaa.Nt
open Go.RowKit Go.Maps
set_option linter.unusedVariables false
set_option linter.unusedSimpArgs false
set_option maxRecDepth 20000

theorem ltTypes : Try.prog.types.size = Try.prog.types.size - 1 + 1 := by have : 0 < Try.prog.types.size := of_decide_eq_true (by kernel_rfl); omega
theorem ltDeep : Try.prog.keyTypeAt (Try.prog.types.size + 1) 31 = true := by kernel_rfl
theorem ltWide : (match Try.prog.underlying 31 with | some (.array _ _) | some (.struct _) => true | _ => false) = true := by kernel_rfl
theorem ltLaw0 : Go.WideMaps.KeyLaw Try.prog 31 := deep_law_laid laidOut (m := 2) (by omega) (of_decide_eq_true (by kernel_rfl)) (by kernel_rfl) ltWide
theorem ltLaw : Keyed Try.prog 31 := Keyed.of_law ltLaw0
theorem ltCells : Try.prog.cellsOf 31 = 3 := by kernel_rfl
theorem intCells : Try.prog.cellsOf 3 = 1 := by kernel_rfl
theorem strCells : Try.prog.cellsOf 9 = 1 := by kernel_rfl

/-- a letter that may be under way -/
def Gd (x : Lt) : Prop := place x.fr = true ∧ place x.to = true ∧ x.body.size ≤ 200
/-- what a letter reads as, as a key -/
def lk (x : Lt) : Lit := .string (keyBytes [.int .i64 x.fr, .int .i64 x.to, .string x.body.data.toList])

theorem key_lits (x : Lt) (h : Gd x) : Try.prog.keyLits (Try.prog.types.size + 1) 31 [.int .i64 x.fr, .int .i64 x.to, .string x.body] = some [.int .i64 x.fr, .int .i64 x.to, .string x.body.data.toList] := by
  obtain ⟨h1, h2, h3⟩ := h
  have p1 := place_yes h1
  have p2 := place_yes h2
  have w1 : (Lit.int .i64 x.fr).wf = true := by simp [Lit.wf, IntKind.min, IntKind.max, IntKind.signed, IntKind.bits]; omega
  have w2 : (Lit.int .i64 x.to).wf = true := by simp [Lit.wf, IntKind.min, IntKind.max, IntKind.signed, IntKind.bits]; omega
  have w3 : x.body.size ≤ maxLen := by simp only [maxLen]; omega
  rw [ltTypes]
  generalize Try.prog.types.size - 1 = d
  simp [Program.keyLits, Try.underlying31, Try.underlying3, Try.underlying9, ltCells, intCells, strCells, w1, w2, w3]
theorem key_of (x : Lt) (h : Gd x) : keyOf Try.prog 31 (.agg #[.int .i64 x.fr, .int .i64 x.to, .string x.body]) = some (lk x) := by
  unfold keyOf
  have hf : (Value.agg #[.int .i64 x.fr, .int .i64 x.to, .string x.body]).formed Try.prog 31 = true := by simp [Value.formed, Try.underlying31, ltCells]
  have hk : Try.prog.keyType 31 = true := ltDeep
  have hl := key_lits x h
  simp only [Try.underlying31, hk, hf, Bool.and_self, if_true]
  have hc : (Value.agg #[.int .i64 x.fr, .int .i64 x.to, .string x.body]).cells.toList = [.int .i64 x.fr, .int .i64 x.to, .string x.body] := rfl
  rw [hc, hl]
  rfl
theorem key_inv {v : Value} {kl : Lit} (h : keyOf Try.prog 31 v = some kl) : ∃ x : Lt, v = .agg #[.int .i64 x.fr, .int .i64 x.to, .string x.body] := by
  unfold keyOf at h
  simp only [Try.underlying31] at h
  split at h
  · rename_i hc
    rw [Bool.and_eq_true] at hc
    have hf := hc.2
    cases v with
    | agg cs =>
      have hs : cs.size = 3 := by simpa [Value.formed, Try.underlying31, ltCells] using hf
      obtain ⟨l⟩ := cs
      match l, hs with
      | [c0, c1, c2], _ =>
        cases hl : Try.prog.keyLits (Try.prog.types.size + 1) 31 (Value.agg #[c0, c1, c2]).cells.toList with
        | none =>
          have hl' := hl
          simp only [Value.cells] at hl' h
          rw [hl'] at h; cases h
        | some ls =>
          have hl2 : Try.prog.keyLits (Try.prog.types.size + 1) 31 [c0, c1, c2] = some ls := hl
          rw [ltTypes] at hl2
          generalize Try.prog.types.size - 1 = d at hl2
          simp [Program.keyLits, Try.underlying31, Try.underlying3, Try.underlying9, ltCells, intCells, strCells] at hl2
          obtain ⟨k0, n0, rfl⟩ : ∃ k n, c0 = .int k n := by cases c0 <;> first | exact ⟨_, _, rfl⟩ | (exfalso; simp at hl2)
          by_cases hk0 : k0 = IntKind.i64 ∧ (Lit.int IntKind.i64 n0).wf = true
          case neg => exfalso; simp [hk0] at hl2
          obtain ⟨rfl, hw0⟩ := hk0
          simp only [hw0, and_self, if_true] at hl2
          obtain ⟨k1, n1, rfl⟩ : ∃ k n, c1 = .int k n := by cases c1 <;> first | exact ⟨_, _, rfl⟩ | (exfalso; simp at hl2)
          by_cases hk1 : k1 = IntKind.i64 ∧ (Lit.int IntKind.i64 n1).wf = true
          case neg => exfalso; simp [hk1] at hl2
          obtain ⟨rfl, hw1⟩ := hk1
          simp only [hw1, and_self, if_true] at hl2
          obtain ⟨s, rfl⟩ : ∃ s, c2 = .string s := by cases c2 <;> first | exact ⟨_, rfl⟩ | (exfalso; simp at hl2)
          exact ⟨⟨n0, n1, s⟩, rfl⟩
    | _ => simp [Value.formed, Try.underlying31] at hf
  · cases h
theorem lk_inj {x y : Lt} (hx : Gd x) (hy : Gd y) (h : lk x = lk y) : x = y := by
  have h1 := key_of x hx
  have h2 := key_of y hy
  rw [h] at h1
  have := ltLaw.inj h1 h2
  injection this with this
  simp at this
  exact Lt.ext' this.1 this.2.1 this.2.2
theorem lk_key {x : Lt} (hx : Gd x) : WideAt.IsKeyLit (lk x) := ltLaw.key (key_of x hx)
theorem int_wf' {c : Int} (h1 : -9223372036854775808 ≤ c) (h2 : c ≤ 9223372036854775807) : (Lit.int .i64 c).wf = true := by
  simp [Lit.wf, IntKind.min, IntKind.max, IntKind.signed, IntKind.bits]; omega
end Go.Proofs.Ythbgabmmfokioaa.Nt
