/-
  Rows of bools and of numbers that a statement is handed, read as in memory.
-/
import Derived.Test.YtlicofdklfbkoaaRows
import Derived.Test.YtlicofdklfbkoaaLeAwk
import Derived.ProofKit
import Derived.OpenShut
import Derived.ShutString
import Derived.ChangeOld
import Derived.SliceStrings
import Derived.Lib.SmallJoins
import Derived.Deep.SlicePairs
import Derived.Deep.Grids
namespace Go.Proofs.Ytlicofdklfbkoaa.Le
open Go.ChangeShapes Go.WideShapes Go.ChangeAt Go.RowKit Go.Joins Go.Deep
set_option linter.unusedVariables false
set_option linter.unusedSimpArgs false
set_option maxRecDepth 20000

theorem own : ownKnob Try.prog.godebug = none := by kernel_rfl
theorem laidOut : laidOutB Try.prog = true := by kernel_rfl

def i64s (l : List Int) : List Value := l.map (Value.int .i64)
theorem i64s_length (l : List Int) : (i64s l).length = l.length := List.length_map _
theorem row_nil (w : World) : Row w none 0 0 [] := ⟨rfl, Nat.le_refl _, by simp [maxLen], .inl rfl⟩
/-- each is an int64 -/
def Wide (l : List Int) : Prop := ∀ x ∈ l, -9223372036854775808 ≤ x ∧ x ≤ 9223372036854775807
theorem wf_i64 {x : Int} (h : (Lit.int .i64 x).wf = true) : -9223372036854775808 ≤ x ∧ x ≤ 9223372036854775807 := by
  simp [Lit.wf, IntKind.min, IntKind.max, IntKind.signed, IntKind.bits] at h
  omega
theorem u8_range {x : Int} (h : (Lit.int .u8 x).wf = true) : 0 ≤ x ∧ x ≤ 255 := by
  simp [Lit.wf, IntKind.min, IntKind.max, IntKind.signed, IntKind.bits] at h
  omega
/-- a row of numbers that came in -/
def NRow (w : World) (a : Option Addr) (n cap : Nat) (l : List Int) : Prop := Row w a n cap (i64s l) ∧ Wide l

theorem addr_add {b off : Nat} (k : Nat) : (⟨b, off, none⟩ : Addr).add k = ⟨b, off + k, none⟩ := by by_cases g : k = 0 <;> simp [Addr.add, g]

theorem row_in {w : World} {a : Addr} {len cap : Nat} {f : Nat → Value} {m : Nat} (hl : len ≤ cap) (hm : cap ≤ maxLen) (hlm : len ≤ m) (hc : ∀ i, i < m → w.cell? (a.add i) = some (f i)) :
    Row w (some a) len cap ((List.range len).map f) := by
  refine ⟨by simp, hl, hm, ?_⟩
  by_cases h0 : len = 0
  · subst h0; exact .inl rfl
  · obtain ⟨b, off, spot⟩ := a
    have hc0 := hc 0 (by omega)
    have hspot : spot = none := by simpa [Addr.add] using World.cell?_spot hc0
    subst hspot
    refine .inr ⟨b, off, rfl, by simpa [Addr.add] using World.block_lt_of_cell? w _ hc0, fun i hi => ?_⟩
    have := hc i (by omega)
    rw [addr_add] at this
    rw [this]
    simp [hi]

section
variable {H : Type} {enc : TypeId × Value → H} {W : World}
theorem open_bits {v : Value} {d : DataW H} {p : List MemPlace} (h : DataW.Trod enc Try.prog W 0 (fun _ => true) true 22 v d p) (hv : ∃ a n c, v = .slice a n c) :
    ∃ (a : Option Addr) (n cap : Nat) (l : List Bool), v = .slice a n cap ∧ Row W a n cap (bits l) := by
  obtain ⟨a, n, c, rfl⟩ := hv
  obtain ⟨fuel, hf⟩ := h
  rcases open_bools Try.underlying22 Try.underlying4 (by kernel_rfl) hf with ⟨hcs, _⟩ | ⟨a, l, c, B, hcs, _, hl, hm, _, hcell⟩
  · injection hcs with hcs
    exact ⟨none, 0, 0, [], hcs, row_nil W⟩
  · injection hcs with hcs
    refine ⟨some a, l, c, (List.range l).map B, hcs, ?_⟩
    unfold bits
    rw [List.map_map]
    exact row_in hl hm (by omega) hcell

theorem open_i64s {v : Value} {d : DataW H} {p : List MemPlace} (h : DataW.Trod enc Try.prog W 0 (fun _ => true) true 31 v d p) (hv : ∃ a n c, v = .slice a n c) :
    ∃ a n cap l, v = .slice a n cap ∧ NRow W a n cap l := by
  obtain ⟨a, n, c, rfl⟩ := hv
  obtain ⟨fuel, hf⟩ := h
  rcases open_ints Try.underlying31 Try.underlying2 (by kernel_rfl) hf with ⟨hcs, _⟩ | ⟨a, l, c, zs, hcs, _, hl, hm, hz, _, hcell, hwz⟩
  · injection hcs with hcs
    exact ⟨none, 0, 0, [], hcs, ⟨rfl, by omega, by simp [maxLen], .inl rfl⟩, by simp [Wide]⟩
  · injection hcs with hcs
    have hz' : zs.length = c := by simpa using hz
    have e : i64s (zs.take l) = (List.range l).map fun i => .int .i64 (zs.getD i 0) := by
      apply List.ext_getElem?
      intro i
      unfold i64s
      rw [List.getElem?_map, List.getElem?_map, List.getElem?_take]
      by_cases hi : i < l
      · rw [if_pos hi, List.getElem?_range hi]
        have hil : i < zs.length := by omega
        simp [List.getD_eq_getElem?_getD, hil]
      · rw [if_neg hi, List.getElem?_eq_none (by simp; omega)]
        rfl
    refine ⟨some a, l, c, zs.take l, hcs, ?_, fun x hx => wf_i64 (hwz x (List.mem_of_mem_take hx))⟩
    rw [e]
    exact row_in hl hm (by omega) hcell

end
theorem Row.num {w : World} {a : Option Addr} {n cap : Nat} {l : List Int} (h : Row w a n cap (i64s l)) {i : Nat} {x : Int} (hx : l[i]? = some x) : ∃ b off, a = some ⟨b, off, none⟩ ∧ b < w.heap.size ∧ w.cell? ⟨b, off + i, none⟩ = some (.int .i64 x) := by
  obtain ⟨h1, h2, h3, h4⟩ := h
  rw [i64s_length] at h1
  have hi := (List.getElem?_eq_some_iff.1 hx).1
  rcases h4 with h4 | ⟨b, off, ha, hlt, hc⟩
  · have := congrArg List.length h4; rw [i64s_length, List.length_nil] at this; omega
  · refine ⟨b, off, ha, hlt, ?_⟩
    rw [hc i (by omega)]
    unfold i64s
    rw [List.getElem?_map, hx]
    rfl
end Go.Proofs.Ytlicofdklfbkoaa.Le
