/-
  Letters, rows of letters and rows of acts that a statement is handed, read as in memory.
-/
import Derived.Test.YthbgabmmfokioaaRows
import Derived.Test.YthbgabmmfokioaaNtSame
import Derived.ProofKit
import Derived.OpenShut
import Derived.ShutString
import Derived.ChangeOld
import Derived.Lib.SmallJoins
import Derived.Deep.Slices
import Derived.Deep.Fields
import Derived.Deep.Grids
namespace Go.Proofs.Ythbgabmmfokioaa
open Go.ChangeShapes Go.WideShapes Go.ChangeAt Go.RowKit Go.Joins Go.Deep
set_option linter.unusedVariables false
set_option linter.unusedSimpArgs false
set_option maxRecDepth 20000

theorem own : ownKnob Try.prog.godebug = none := by kernel_rfl
theorem laidOut : laidOutB Try.prog = true := by kernel_rfl
namespace Nt

/-- a row of letters that came in -/
def AL (w : World) (a : Option Addr) (n c : Nat) (l : List Lt) : Prop := Rd w a n l ∧ n ≤ c ∧ c ≤ maxLen
/-- an act -/
structure Ac where
  kind : Int
  i : Int
  x : Lt
instance : Inhabited Ac := ⟨⟨0, 0, default⟩⟩
def Ac.cells (y : Ac) : List Value := [.int .i64 y.kind, .int .i64 y.i, .int .i64 y.x.fr, .int .i64 y.x.to, .string y.x.body]
def Lt.Wf (x : Lt) : Prop := (-9223372036854775808 ≤ x.fr ∧ x.fr ≤ 9223372036854775807) ∧ -9223372036854775808 ≤ x.to ∧ x.to ≤ 9223372036854775807
def Ac.Wf (y : Ac) : Prop := (-9223372036854775808 ≤ y.i ∧ y.i ≤ 9223372036854775807) ∧ y.x.Wf
/-- acts that came in -/
def Acts (w : World) (a : Option Addr) (n c : Nat) (l : List Ac) : Prop :=
  l.length = n ∧ n ≤ c ∧ c ≤ maxLen ∧ (∀ y ∈ l, y.Wf) ∧ (l = [] ∨ ∃ b off, a = some ⟨b, off, none⟩ ∧ b < w.heap.size ∧ ∀ k y, l[k]? = some y → ∀ i v, y.cells[i]? = some v → w.cell? ⟨b, off + (k * 5 + i), none⟩ = some v)

theorem wf_i64 {x : Int} (h : (Lit.int .i64 x).wf = true) : -9223372036854775808 ≤ x ∧ x ≤ 9223372036854775807 := by
  simp [Lit.wf, IntKind.min, IntKind.max, IntKind.signed, IntKind.bits] at h
  omega

section
variable {H : Type} {enc : TypeId × Value → H} {W : World}

theorem open_lt {v : Value} {d : DataW H} {p : List MemPlace} {base : Nat} (hv : Value.okWide Try.prog W .any base 31 v) (h : DataW.Trod enc Try.prog W 0 (fun _ => true) true 31 v d p) :
    ∃ x : Lt, v = ltV x := by
  obtain ⟨v0, v1, v2, y0, y1, y2, n, rfl, _, _, h0, h1, h2⟩ := open_agg3 Try.underlying31 (by kernel_rfl) (by kernel_rfl) hv h
  obtain ⟨n0, e0, _, _⟩ := DataW.trod_int Try.underlying3 h0
  obtain ⟨n1, e1, _, _⟩ := DataW.trod_int Try.underlying3 h1
  obtain ⟨zs, e2, _, _⟩ := DataW.trod_string Try.underlying9 h2
  injection e0 with e0
  injection e1 with e1
  injection e2 with e2
  subst e0 e1 e2
  exact ⟨⟨n0, n1, zs⟩, rfl⟩

theorem lt_cells {fuel : Nat} {c0 c1 c2 : Value} {x : DataW H × List MemPlace} (h : DataW.trod enc Try.prog W 0 (fun _ => true) true fuel 31 [c0, c1, c2] = some x) :
    ∃ y : Lt, [c0, c1, c2] = [.int .i64 y.fr, .int .i64 y.to, .string y.body] ∧ y.Wf := by
  have k3 : Try.prog.cellsOf 3 = 1 := by kernel_rfl
  have k9 : Try.prog.cellsOf 9 = 1 := by kernel_rfl
  obtain ⟨xs, k, _, _, _, hxl, hf⟩ := DataW.trod_struct Try.underlying31 h
  have g0 := hf 0 _ rfl
  have g1 := hf 1 _ rfl
  have g2 := hf 2 _ rfl
  match xs, hxl with
  | [y0, y1, y2], _ =>
    simp [k3] at g0 g1
    simp [k9] at g2
    obtain ⟨n0, e0, _, w0⟩ := DataW.trod_int Try.underlying3 g0
    obtain ⟨n1, e1, _, w1⟩ := DataW.trod_int Try.underlying3 g1
    obtain ⟨zs, e2, _, _⟩ := DataW.trod_string Try.underlying9 g2
    injection e0 with e0
    injection e1 with e1
    injection e2 with e2
    subst e0 e1 e2
    exact ⟨⟨n0, n1, zs⟩, rfl, wf_i64 w0, wf_i64 w1⟩

theorem open_ltrs {v : Value} {d : DataW H} {p : List MemPlace} (h : DataW.Trod enc Try.prog W 0 (fun _ => true) true 27 v d p) (hv : ∃ a n c, v = .slice a n c) :
    ∃ a n cap l, v = .slice a n cap ∧ AL W a n cap l := by
  obtain ⟨a, n, c, rfl⟩ := hv
  obtain ⟨fuel, hf⟩ := h
  have c31 : Try.prog.cellsOf 31 = 3 := by kernel_rfl
  rcases open_slice Try.underlying27 hf with ⟨hcs, _⟩ | ⟨a, l, c, m, n, D, Pl, hcs, _, hl, hm, hmm, _, hi⟩
  · injection hcs with hcs
    exact ⟨none, 0, 0, [], hcs, Rd.nil _ _, Nat.le_refl _, by simp [maxLen]⟩
  · injection hcs with hcs
    simp only [if_true] at hmm
    have each : ∀ i, i < l → ∃ y : Lt, W.cell? (a.add (i * 3)) = some (.int .i64 y.fr) ∧ W.cell? (a.add (i * 3 + 1)) = some (.int .i64 y.to) ∧ W.cell? (a.add (i * 3 + 2)) = some (.string y.body) := by
      intro i hil
      obtain ⟨cs', h1, h2⟩ := hi i (by omega)
      rw [c31] at h1
      obtain ⟨_, hlen, hcell⟩ := World.cells?_some h1
      match cs', hlen with
      | [v0, v1, v2], _ =>
        obtain ⟨y, hy, _⟩ := lt_cells h2
        simp only [List.cons.injEq, and_true] at hy
        obtain ⟨rfl, rfl, rfl⟩ := hy
        have q0 := hcell 0 (by omega)
        have q1 := hcell 1 (by omega)
        have q2 := hcell 2 (by omega)
        rw [add_add] at q0 q1 q2
        exact ⟨y, q0, q1, q2⟩
    obtain ⟨q, hq⟩ := choose_lt each
    refine ⟨some a, l, c, (List.range l).map q, hcs, ⟨by simp, ?_⟩, hl, hm⟩
    by_cases h0 : l = 0
    · exact .inl h0
    · obtain ⟨b, off, spot⟩ := a
      have hc0 := (hq 0 (by omega)).1
      have hspot : spot = none := by simpa [Addr.add] using World.cell?_spot hc0
      subst hspot
      refine .inr ⟨b, off, rfl, by simpa [Addr.add] using World.block_lt_of_cell? W _ hc0, fun j u hu => ?_⟩
      have hj := (List.getElem?_eq_some_iff.1 hu).1
      rw [ltrs_length, List.length_map, List.length_range] at hj
      have hil : j / 3 < l := by omega
      have hg : ((List.range l).map q)[j / 3]? = some (q (j / 3)) := by simp [hil]
      obtain ⟨k0, k1, k2⟩ := ltrs_get hg
      obtain ⟨g0, g1, g2⟩ := hq (j / 3) hil
      rw [addr_add] at g0 g1 g2
      have h3 : j % 3 = 0 ∨ j % 3 = 1 ∨ j % 3 = 2 := by omega
      rcases h3 with h3 | h3 | h3
      · rw [show j = j / 3 * 3 by omega] at hu ⊢
        rw [k0] at hu; injection hu with hu; rw [← hu]; exact g0
      · rw [show j = j / 3 * 3 + 1 by omega] at hu ⊢
        rw [k1] at hu; injection hu with hu; rw [← hu]; exact g1
      · rw [show j = j / 3 * 3 + 2 by omega] at hu ⊢
        rw [k2] at hu; injection hu with hu; rw [← hu]; exact g2

theorem open_acts {v : Value} {d : DataW H} {p : List MemPlace} (h : DataW.Trod enc Try.prog W 0 (fun _ => true) true 22 v d p) (hv : ∃ a n c, v = .slice a n c) :
    ∃ a n cap l, v = .slice a n cap ∧ Acts W a n cap l := by
  obtain ⟨a, n, c, rfl⟩ := hv
  obtain ⟨fuel, hf⟩ := h
  have c33 : Try.prog.cellsOf 33 = 5 := by kernel_rfl
  have k3 : Try.prog.cellsOf 3 = 1 := by kernel_rfl
  have c31 : Try.prog.cellsOf 31 = 3 := by kernel_rfl
  rcases open_slice Try.underlying22 hf with ⟨hcs, _⟩ | ⟨a, l, c, m, n, D, Pl, hcs, _, hl, hm, hmm, _, hi⟩
  · injection hcs with hcs
    exact ⟨none, 0, 0, [], hcs, rfl, Nat.le_refl _, by simp [maxLen], by simp, .inl rfl⟩
  · injection hcs with hcs
    simp only [if_true] at hmm
    have each : ∀ i, i < l → ∃ q : Ac, q.Wf ∧ ∀ j v, q.cells[j]? = some v → W.cell? (a.add (i * 5 + j)) = some v := by
      intro i hil
      obtain ⟨cs', h1, h2⟩ := hi i (by omega)
      rw [c33] at h1
      obtain ⟨_, hlen, hcell⟩ := World.cells?_some h1
      obtain ⟨xs, k, _, _, _, hxl, hf⟩ := DataW.trod_struct Try.underlying33 h2
      match cs', hlen with
      | [v0, v1, v2, v3, v4], _ =>
        have g0 := hf 0 _ rfl
        have g1 := hf 1 _ rfl
        have g2 := hf 2 _ rfl
        match xs, hxl with
        | [y0, y1, y2], _ =>
          simp [k3] at g0 g1
          simp [c31] at g2
          obtain ⟨n0, e0, _, w0⟩ := DataW.trod_int Try.underlying3 g0
          obtain ⟨n1, e1, _, w1⟩ := DataW.trod_int Try.underlying3 g1
          obtain ⟨e, e2, e3⟩ := lt_cells g2
          injection e0 with e0
          injection e1 with e1
          simp only [List.cons.injEq, and_true] at e2
          obtain ⟨rfl, rfl, rfl⟩ := e2
          subst e0 e1
          refine ⟨⟨n0, n1, e⟩, ⟨wf_i64 w1, e3⟩, fun j v hj => ?_⟩
          have hjl : j < 5 := by have := (List.getElem?_eq_some_iff.1 hj).1; simpa [Ac.cells] using this
          have := hcell j (by omega)
          rw [add_add] at this
          rw [this]
          exact hj
    obtain ⟨q, hq⟩ := choose_lt each
    refine ⟨some a, l, c, (List.range l).map q, hcs, by simp, hl, hm, ?_, ?_⟩
    · intro x hx
      obtain ⟨i, hi', rfl⟩ := List.mem_map.1 hx
      exact (hq i (List.mem_range.1 hi')).1
    · by_cases h0 : l = 0
      · subst h0; exact .inl rfl
      · obtain ⟨b, off, spot⟩ := a
        have hc0 := (hq 0 (by omega)).2 0 _ rfl
        have hspot : spot = none := by simpa [Addr.add] using World.cell?_spot hc0
        subst hspot
        refine .inr ⟨b, off, rfl, by simpa [Addr.add] using World.block_lt_of_cell? W _ hc0, fun i x hx j v hv => ?_⟩
        have hil : i < l := by have := (List.getElem?_eq_some_iff.1 hx).1; simpa using this
        have hxq : x = q i := by simp [hil] at hx; exact hx.symm
        subst hxq
        have := (hq i hil).2 j v hv
        rw [addr_add] at this
        exact this
end
end Nt
end Go.Proofs.Ythbgabmmfokioaa
