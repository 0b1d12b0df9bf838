/-
  Items, rows of items, of numbers and of acts, and a version, that a statement is handed, read as in memory.
-/
import Derived.Test.YtcnmkojlledipaaRows
import Derived.Test.YtcnmkojlledipaaMrAwk
import Derived.ProofKit
import Derived.OpenShut
import Derived.ShutString
import Derived.ChangeOld
import Derived.Lib.SmallJoins
import Derived.Deep.Slices
import Derived.Deep.Fields
import Derived.Deep.Grids
namespace Go.Proofs.Ytcnmkojlledipaa
open Go.ChangeShapes Go.WideShapes Go.ChangeAt Go.RowKit Go.Joins Go.Deep
set_option linter.unusedVariables false
set_option linter.unusedSimpArgs false
set_option maxRecDepth 20000

theorem own : ownKnob Try.prog.godebug = none := by kernel_rfl
theorem laidOut : laidOutB Try.prog = true := by kernel_rfl
namespace Mr

def It.Wf (x : It) : Prop := -9223372036854775808 ≤ x.seq ∧ x.seq ≤ 9223372036854775807
/-- a row of items that came in -/
def AL (w : World) (a : Option Addr) (n c : Nat) (l : List It) : Prop := Rd w a n l ∧ n ≤ c ∧ c ≤ maxLen ∧ ∀ x ∈ l, x.Wf
/-- an act -/
structure Ac where
  kind : Int
  i : Int
  x : It
instance : Inhabited Ac := ⟨⟨0, 0, default⟩⟩
def Ac.cells (y : Ac) : List Value := [.int .i64 y.kind, .int .i64 y.i, .int .i64 y.x.seq, .int .i64 y.x.blk, .string y.x.data, .int .i64 y.x.cl, .int .i64 y.x.n]
def In64 (x : Int) : Prop := -9223372036854775808 ≤ x ∧ x ≤ 9223372036854775807
def Ac.Wf (y : Ac) : Prop := In64 y.i
/-- acts that came in -/
def Acts (w : World) (a : Option Addr) (n c : Nat) (l : List Ac) : Prop :=
  l.length = n ∧ n ≤ c ∧ c ≤ maxLen ∧ (∀ y ∈ l, y.Wf) ∧ (l = [] ∨ ∃ b off, a = some ⟨b, off, none⟩ ∧ b < w.heap.size ∧ ∀ k y, l[k]? = some y → ∀ i v, y.cells[i]? = some v → w.cell? ⟨b, off + (k * 7 + i), none⟩ = some v)

theorem wf_i64 {x : Int} (h : (Lit.int .i64 x).wf = true) : -9223372036854775808 ≤ x ∧ x ≤ 9223372036854775807 := by
  simp [Lit.wf, IntKind.min, IntKind.max, IntKind.signed, IntKind.bits] at h
  omega
theorem wf_u8 {x : Int} (h : (Lit.int .u8 x).wf = true) : 0 ≤ x ∧ x ≤ 255 := by
  simp [Lit.wf, IntKind.min, IntKind.max, IntKind.signed, IntKind.bits] at h
  omega
/-- a row of numbers that came in -/
def NR (k : IntKind) (w : World) (a : Option Addr) (n c : Nat) (l : List Int) : Prop :=
  l.length = n ∧ n ≤ c ∧ c ≤ maxLen ∧ (∀ x ∈ l, (Lit.int k x).wf = true) ∧ (n = 0 ∨ ∃ b off, a = some ⟨b, off, none⟩ ∧ b < w.heap.size ∧ ∀ j x, l[j]? = some x → w.cell? ⟨b, off + j, none⟩ = some (.int k x))
theorem NR.at {k : IntKind} {w : World} {a : Option Addr} {n c : Nat} {l : List Int} (h : NR k w a n c l) {i : Nat} {x : Int} (hx : l[i]? = some x) : ∃ b off, a = some ⟨b, off, none⟩ ∧ b < w.heap.size ∧ w.cell? ⟨b, off + i, none⟩ = some (.int k x) := by
  have hi := (List.getElem?_eq_some_iff.1 hx).1
  rcases h.2.2.2.2 with h0 | ⟨b, off, ha, hb, hc⟩
  · have := h.1; omega
  · exact ⟨b, off, ha, hb, hc i x hx⟩
theorem Acts.at {w : World} {a : Option Addr} {n c : Nat} {l : List Ac} (h : Acts w a n c l) {i : Nat} {y : Ac} (hx : l[i]? = some y) : ∃ b off, a = some ⟨b, off, none⟩ ∧ b < w.heap.size ∧ ∀ j v, y.cells[j]? = some v → w.cell? ⟨b, off + (i * 7 + j), none⟩ = some v := by
  rcases h.2.2.2.2 with h0 | ⟨b, off, ha, hb, hc⟩
  · subst h0; simp at hx
  · exact ⟨b, off, ha, hb, hc i y hx⟩

section
variable {H : Type} {enc : TypeId × Value → H} {W : World}

theorem open_ver {v : Value} {d : DataW H} {p : List MemPlace} {base : Nat} (hv : Value.okWide Try.prog W .any base 44 v) (h : DataW.Trod enc Try.prog W 0 (fun _ => true) true 44 v d p) :
    ∃ e s : Int, v = .agg #[.int .i64 e, .int .i64 s] ∧ In64 e ∧ In64 s := by
  obtain ⟨v0, v1, y0, y1, n, rfl, _, _, h0, h1⟩ := open_agg2 Try.underlying44 (by kernel_rfl) (by kernel_rfl) hv h
  obtain ⟨n0, e0, _, w0⟩ := DataW.trod_int Try.underlying2 h0
  obtain ⟨n1, e1, _, w1⟩ := DataW.trod_int Try.underlying2 h1
  injection e0 with e0
  injection e1 with e1
  subst e0 e1
  exact ⟨n0, n1, rfl, wf_i64 w0, wf_i64 w1⟩

theorem open_nums {k : IntKind} {t e : TypeId} (ht : Try.prog.underlying t = some (.slice e)) (he : Try.prog.underlying e = some (.int k)) (hc : Try.prog.cellsOf e = 1) {v : Value} {d : DataW H} {p : List MemPlace} (h : DataW.Trod enc Try.prog W 0 (fun _ => true) true t v d p) (hv : ∃ a n c, v = .slice a n c) :
    ∃ a n cap l, v = .slice a n cap ∧ NR k W a n cap l := by
  obtain ⟨a, n, c, rfl⟩ := hv
  obtain ⟨fuel, hf⟩ := h
  rcases open_ints ht he hc hf with ⟨hcs, _⟩ | ⟨a, l, c, zs, hcs, _, hl, hm, hz, _, hcell, hwz⟩
  · injection hcs with hcs
    exact ⟨none, 0, 0, [], hcs, rfl, by omega, by simp [maxLen], by simp, .inl rfl⟩
  · injection hcs with hcs
    have hz' : zs.length = c := by simpa using hz
    refine ⟨some a, l, c, zs.take l, hcs, by simp; omega, hl, hm, fun x hx => hwz x (List.mem_of_mem_take hx), ?_⟩
    by_cases h0 : l = 0
    · exact .inl h0
    · obtain ⟨b, off, spot⟩ := a
      have hc0 := hcell 0 (by omega)
      have hspot : spot = none := by simpa [Addr.add] using World.cell?_spot hc0
      subst hspot
      refine .inr ⟨b, off, rfl, by simpa [Addr.add] using World.block_lt_of_cell? W _ hc0, fun j x hx => ?_⟩
      have hj := (List.getElem?_eq_some_iff.1 hx).1
      rw [List.length_take] at hj
      rw [List.getElem?_take, if_pos (by omega)] at hx
      have := hcell j (by omega)
      rw [addr_add] at this
      rw [this, List.getD_eq_getElem?_getD, hx]
      rfl
theorem open_i64s {v : Value} {d : DataW H} {p : List MemPlace} (h : DataW.Trod enc Try.prog W 0 (fun _ => true) true 49 v d p) (hv : ∃ a n c, v = .slice a n c) :
    ∃ a n cap l, v = .slice a n cap ∧ NR .i64 W a n cap l := open_nums Try.underlying49 Try.underlying2 (by kernel_rfl) h hv
theorem open_bytes {v : Value} {d : DataW H} {p : List MemPlace} (h : DataW.Trod enc Try.prog W 0 (fun _ => true) true 47 v d p) (hv : ∃ a n c, v = .slice a n c) :
    ∃ a n cap l, v = .slice a n cap ∧ NR .u8 W a n cap l := open_nums Try.underlying47 Try.underlying5 (by kernel_rfl) h hv

theorem it_cells {fuel : Nat} {c0 c1 c2 c3 c4 : Value} {x : DataW H × List MemPlace} (h : DataW.trod enc Try.prog W 0 (fun _ => true) true fuel 29 [c0, c1, c2, c3, c4] = some x) :
    ∃ y : It, [c0, c1, c2, c3, c4] = [.int .i64 y.seq, .int .i64 y.blk, .string y.data, .int .i64 y.cl, .int .i64 y.n] ∧ y.Wf := by
  have k3 : Try.prog.cellsOf 3 = 1 := by kernel_rfl
  have k2 : Try.prog.cellsOf 2 = 1 := by kernel_rfl
  have k9 : Try.prog.cellsOf 9 = 1 := by kernel_rfl
  obtain ⟨xs, k, _, _, _, hxl, hf⟩ := DataW.trod_struct Try.underlying29 h
  have g0 := hf 0 _ rfl
  have g1 := hf 1 _ rfl
  have g2 := hf 2 _ rfl
  have g3 := hf 3 _ rfl
  have g4 := hf 4 _ rfl
  match xs, hxl with
  | [y0, y1, y2, y3, y4], _ =>
    simp [k2] at g0 g4
    simp [k3] at g1 g3
    simp [k9] at g2
    obtain ⟨n0, e0, _, w0⟩ := DataW.trod_int Try.underlying2 g0
    obtain ⟨n1, e1, _, w1⟩ := DataW.trod_int Try.underlying3 g1
    obtain ⟨zs, e2, _, _⟩ := DataW.trod_string Try.underlying9 g2
    obtain ⟨n3, e3, _, w3⟩ := DataW.trod_int Try.underlying3 g3
    obtain ⟨n4, e4, _, w4⟩ := DataW.trod_int Try.underlying2 g4
    injection e0 with e0
    injection e1 with e1
    injection e2 with e2
    injection e3 with e3
    injection e4 with e4
    subst e0 e1 e2 e3 e4
    exact ⟨⟨n0, n1, zs, n3, n4⟩, rfl, wf_i64 w0⟩

theorem open_items {v : Value} {d : DataW H} {p : List MemPlace} (h : DataW.Trod enc Try.prog W 0 (fun _ => true) true 36 v d p) (hv : ∃ a n c, v = .slice a n c) :
    ∃ a n cap l, v = .slice a n cap ∧ AL W a n cap l := by
  obtain ⟨a, n, c, rfl⟩ := hv
  obtain ⟨fuel, hf⟩ := h
  have c31 : Try.prog.cellsOf 29 = 5 := by kernel_rfl
  rcases open_slice Try.underlying36 hf with ⟨hcs, _⟩ | ⟨a, l, c, m, n, D, Pl, hcs, _, hl, hm, hmm, _, hi⟩
  · injection hcs with hcs
    exact ⟨none, 0, 0, [], hcs, Rd.nil _ _, Nat.le_refl _, by simp [maxLen], by simp⟩
  · injection hcs with hcs
    simp only [if_true] at hmm
    have each : ∀ i, i < l → ∃ y : It, y.Wf ∧ W.cell? (a.add (i * 5)) = some (.int .i64 y.seq) ∧ W.cell? (a.add (i * 5 + 1)) = some (.int .i64 y.blk) ∧ W.cell? (a.add (i * 5 + 2)) = some (.string y.data) ∧ W.cell? (a.add (i * 5 + 3)) = some (.int .i64 y.cl) ∧ W.cell? (a.add (i * 5 + 4)) = some (.int .i64 y.n) := by
      intro i hil
      obtain ⟨cs', h1, h2⟩ := hi i (by omega)
      rw [c31] at h1
      obtain ⟨_, hlen, hcell⟩ := World.cells?_some h1
      match cs', hlen with
      | [v0, v1, v2, v3, v4], _ =>
        obtain ⟨y, hy, hwf⟩ := it_cells h2
        simp only [List.cons.injEq, and_true] at hy
        obtain ⟨rfl, rfl, rfl, rfl, rfl⟩ := hy
        have q0 := hcell 0 (by omega)
        have q1 := hcell 1 (by omega)
        have q2 := hcell 2 (by omega)
        have q3 := hcell 3 (by omega)
        have q4 := hcell 4 (by omega)
        rw [add_add] at q0 q1 q2 q3 q4
        exact ⟨y, hwf, q0, q1, q2, q3, q4⟩
    obtain ⟨q, hq⟩ := choose_lt each
    refine ⟨some a, l, c, (List.range l).map q, hcs, ⟨by simp, ?_⟩, hl, hm, ?_⟩
    · by_cases h0 : l = 0
      · exact .inl h0
      · obtain ⟨b, off, spot⟩ := a
        have hc0 := (hq 0 (by omega)).2.1
        have hspot : spot = none := by simpa [Addr.add] using World.cell?_spot hc0
        subst hspot
        refine .inr ⟨b, off, rfl, by simpa [Addr.add] using World.block_lt_of_cell? W _ hc0, fun j u hu => ?_⟩
        have hj := (List.getElem?_eq_some_iff.1 hu).1
        rw [itms_length, List.length_map, List.length_range] at hj
        have hil : j / 5 < l := by omega
        have hg : ((List.range l).map q)[j / 5]? = some (q (j / 5)) := by simp [hil]
        obtain ⟨k0, k1, k2, k3, k4⟩ := itms_get hg
        obtain ⟨_, g0, g1, g2, g3, g4⟩ := hq (j / 5) hil
        rw [addr_add] at g0 g1 g2 g3 g4
        have h5 : j % 5 = 0 ∨ j % 5 = 1 ∨ j % 5 = 2 ∨ j % 5 = 3 ∨ j % 5 = 4 := by omega
        rcases h5 with h5 | h5 | h5 | h5 | h5
        · rw [show j = j / 5 * 5 by omega] at hu ⊢
          rw [k0] at hu; injection hu with hu; rw [← hu]; exact g0
        · rw [show j = j / 5 * 5 + 1 by omega] at hu ⊢
          rw [k1] at hu; injection hu with hu; rw [← hu]; exact g1
        · rw [show j = j / 5 * 5 + 2 by omega] at hu ⊢
          rw [k2] at hu; injection hu with hu; rw [← hu]; exact g2
        · rw [show j = j / 5 * 5 + 3 by omega] at hu ⊢
          rw [k3] at hu; injection hu with hu; rw [← hu]; exact g3
        · rw [show j = j / 5 * 5 + 4 by omega] at hu ⊢
          rw [k4] at hu; injection hu with hu; rw [← hu]; exact g4
    · intro x hx
      obtain ⟨i, hi', rfl⟩ := List.mem_map.1 hx
      exact (hq i (List.mem_range.1 hi')).1

theorem open_acts {v : Value} {d : DataW H} {p : List MemPlace} (h : DataW.Trod enc Try.prog W 0 (fun _ => true) true 22 v d p) (hv : ∃ a n c, v = .slice a n c) :
    ∃ a n cap l, v = .slice a n cap ∧ Acts W a n cap l := by
  obtain ⟨a, n, c, rfl⟩ := hv
  obtain ⟨fuel, hf⟩ := h
  have c33 : Try.prog.cellsOf 31 = 7 := by kernel_rfl
  have k3 : Try.prog.cellsOf 3 = 1 := by kernel_rfl
  have k2 : Try.prog.cellsOf 2 = 1 := by kernel_rfl
  have c31 : Try.prog.cellsOf 29 = 5 := by kernel_rfl
  rcases open_slice Try.underlying22 hf with ⟨hcs, _⟩ | ⟨a, l, c, m, n, D, Pl, hcs, _, hl, hm, hmm, _, hi⟩
  · injection hcs with hcs
    exact ⟨none, 0, 0, [], hcs, rfl, Nat.le_refl _, by simp [maxLen], by simp, .inl rfl⟩
  · injection hcs with hcs
    simp only [if_true] at hmm
    have each : ∀ i, i < l → ∃ q : Ac, q.Wf ∧ ∀ j v, q.cells[j]? = some v → W.cell? (a.add (i * 7 + j)) = some v := by
      intro i hil
      obtain ⟨cs', h1, h2⟩ := hi i (by omega)
      rw [c33] at h1
      obtain ⟨_, hlen, hcell⟩ := World.cells?_some h1
      obtain ⟨xs, k, _, _, _, hxl, hf⟩ := DataW.trod_struct Try.underlying31 h2
      match cs', hlen with
      | [v0, v1, v2, v3, v4, v5, v6], _ =>
        have g0 := hf 0 _ rfl
        have g1 := hf 1 _ rfl
        have g2 := hf 2 _ rfl
        match xs, hxl with
        | [y0, y1, y2], _ =>
          simp [k3] at g0
          simp [k2] at g1
          simp [c31] at g2
          obtain ⟨n0, e0, _, w0⟩ := DataW.trod_int Try.underlying3 g0
          obtain ⟨n1, e1, _, w1⟩ := DataW.trod_int Try.underlying2 g1
          obtain ⟨e, e2, e3⟩ := it_cells g2
          injection e0 with e0
          injection e1 with e1
          simp only [List.cons.injEq, and_true] at e2
          obtain ⟨rfl, rfl, rfl, rfl, rfl⟩ := e2
          subst e0 e1
          refine ⟨⟨n0, n1, e⟩, wf_i64 w1, fun j v hj => ?_⟩
          have hjl : j < 7 := by have := (List.getElem?_eq_some_iff.1 hj).1; simpa [Ac.cells] using this
          have := hcell j (by omega)
          rw [add_add] at this
          rw [this]
          exact hj
    obtain ⟨q, hq⟩ := choose_lt each
    refine ⟨some a, l, c, (List.range l).map q, hcs, by simp, hl, hm, ?_, ?_⟩
    · intro x hx
      obtain ⟨i, hi', rfl⟩ := List.mem_map.1 hx
      exact (hq i (List.mem_range.1 hi')).1
    · by_cases h0 : l = 0
      · subst h0; exact .inl rfl
      · obtain ⟨b, off, spot⟩ := a
        have hc0 := (hq 0 (by omega)).2 0 _ rfl
        have hspot : spot = none := by simpa [Addr.add] using World.cell?_spot hc0
        subst hspot
        refine .inr ⟨b, off, rfl, by simpa [Addr.add] using World.block_lt_of_cell? W _ hc0, fun i x hx j v hv => ?_⟩
        have hil : i < l := by have := (List.getElem?_eq_some_iff.1 hx).1; simpa using this
        have hxq : x = q i := by simp [hil] at hx; exact hx.symm
        subst hxq
        have := (hq i hil).2 j v hv
        rw [addr_add] at this
        exact this
end
end Mr
end Go.Proofs.Ytcnmkojlledipaa
