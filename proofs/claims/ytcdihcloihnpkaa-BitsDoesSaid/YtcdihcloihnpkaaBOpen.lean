/-
  What bytes and acts, that a statement is handed, read as in memory.
-/
import Derived.Test.YtcdihcloihnpkaaRows
import Derived.Test.YtcdihcloihnpkaaBMem
import Derived.ProofKit
import Derived.OpenShut
import Derived.ShutString
import Derived.ChangeOld
import Derived.SliceStrings
import Derived.Lib.SmallJoins
import Derived.Deep.SlicePairs
namespace Go.Proofs.Ytcdihcloihnpkaa.B
open Go.ChangeShapes Go.WideShapes Go.ChangeAt Go.RowKit Go.Joins Go.Deep
set_option linter.unusedVariables false
set_option linter.unusedSimpArgs false
set_option maxRecDepth 20000

theorem own : ownKnob Try.prog.godebug = none := by kernel_rfl
theorem laidOut : laidOutB Try.prog = true := by kernel_rfl

theorem addr_add {b off : Nat} (k : Nat) : (⟨b, off, none⟩ : Addr).add k = ⟨b, off + k, none⟩ := by by_cases g : k = 0 <;> simp [Addr.add, g]
theorem row_nil (w : World) : Row w none 0 0 [] := ⟨rfl, Nat.le_refl _, by simp [maxLen], .inl rfl⟩
theorem row_in {w : World} {a : Addr} {len cap : Nat} {f : Nat → Value} {m : Nat} (hl : len ≤ cap) (hm : cap ≤ maxLen) (hlm : len ≤ m) (hc : ∀ i, i < m → w.cell? (a.add i) = some (f i)) :
    Row w (some a) len cap ((List.range len).map f) := by
  refine ⟨by simp, hl, hm, ?_⟩
  by_cases h0 : len = 0
  · subst h0; exact .inl rfl
  · obtain ⟨b, off, spot⟩ := a
    have hc0 := hc 0 (by omega)
    have hspot : spot = none := by simpa [Addr.add] using World.cell?_spot hc0
    subst hspot
    refine .inr ⟨b, off, rfl, by simpa [Addr.add] using World.block_lt_of_cell? w _ hc0, fun i hi => ?_⟩
    have := hc i (by omega)
    rw [addr_add] at this
    rw [this]
    simp [hi]
theorem wf_i64 {x : Int} (h : (Lit.int .i64 x).wf = true) : -9223372036854775808 ≤ x ∧ x ≤ 9223372036854775807 := by
  simp [Lit.wf, IntKind.min, IntKind.max, IntKind.signed, IntKind.bits] at h
  omega
theorem wf_u64 {x : Int} (h : (Lit.int .u64 x).wf = true) : 0 ≤ x ∧ x < 18446744073709551616 := by
  simp [Lit.wf, IntKind.min, IntKind.max, IntKind.signed, IntKind.bits] at h
  omega
theorem choose_lt {α : Type} [Inhabited α] {n : Nat} {p : Nat → α → Prop} (h : ∀ i, i < n → ∃ x, p i x) : ∃ f : Nat → α, ∀ i, i < n → p i (f i) :=
  ⟨fun i => if hi : i < n then (h i hi).choose else default, fun i hi => by simp only [dif_pos hi]; exact (h i hi).choose_spec⟩

/-- an act that came in -/
structure A where
  kind : Int
  i : Int
  n : Int
instance : Inhabited A := ⟨⟨0, 0, 0⟩⟩
structure A.Ok (x : A) : Prop where
  k : -9223372036854775808 ≤ x.kind ∧ x.kind ≤ 9223372036854775807
  i : -9223372036854775808 ≤ x.i ∧ x.i ≤ 9223372036854775807
  n : -9223372036854775808 ≤ x.n ∧ x.n ≤ 9223372036854775807
/-- acts that came in -/
def Acts (w : World) (a : Option Addr) (n c : Nat) (l : List A) : Prop :=
  l.length = n ∧ n ≤ c ∧ c ≤ maxLen ∧ (∀ x ∈ l, x.Ok) ∧ (l = [] ∨ ∃ b off, a = some ⟨b, off, none⟩ ∧ b < w.heap.size ∧ ∀ k x, l[k]? = some x →
    w.cell? ⟨b, off + k * 3, none⟩ = some (.int .i64 x.kind) ∧ w.cell? ⟨b, off + k * 3 + 1, none⟩ = some (.int .i64 x.i) ∧ w.cell? ⟨b, off + k * 3 + 2, none⟩ = some (.int .i64 x.n))
theorem acts_at {w w' : World} {a : Option Addr} {n c : Nat} {l : List A} (h : Acts w a n c l) (hb : Below w.heap.size w w') {k : Nat} (hk : k < n) :
    ∃ b off x, a = some ⟨b, off, none⟩ ∧ l[k]? = some x ∧ x.Ok ∧ w'.cell? ⟨b, off + k * 3, none⟩ = some (.int .i64 x.kind) ∧ w'.cell? ⟨b, off + k * 3 + 1, none⟩ = some (.int .i64 x.i) ∧ w'.cell? ⟨b, off + k * 3 + 2, none⟩ = some (.int .i64 x.n) ∧ b < w.heap.size := by
  obtain ⟨h1, h2, h3, h4, h5⟩ := h
  rcases h5 with h5 | ⟨b, off, ha, hlt, hc⟩
  · subst h5; simp at h1; omega
  · obtain ⟨x, hx⟩ : ∃ x, l[k]? = some x := ⟨l[k]'(by omega), List.getElem?_eq_getElem _⟩
    obtain ⟨g1, g2, g3⟩ := hc k x hx
    refine ⟨b, off, x, ha, hx, h4 x (List.mem_of_getElem? hx), ?_, ?_, ?_, hlt⟩
    · rw [hb.cell (p := ⟨b, off + k * 3, none⟩) hlt]; exact g1
    · rw [hb.cell (p := ⟨b, off + k * 3 + 1, none⟩) hlt]; exact g2
    · rw [hb.cell (p := ⟨b, off + k * 3 + 2, none⟩) hlt]; exact g3

section
variable {H : Type} {enc : TypeId × Value → H} {W : World}

theorem open_u8s {fuel : Nat} {v : Value} {x : DataW H × List MemPlace} (h : DataW.trod enc Try.prog W 0 (fun _ => true) true fuel 58 [v] = some x) :
    ∃ a n cap zs, v = .slice a n cap ∧ Row W a n cap (u8s zs) := by
  rcases open_ints Try.underlying58 Try.underlying5 (by kernel_rfl) h with ⟨hcs, _⟩ | ⟨a, l, c, zs, hcs, _, hl, hm, hz, _, hcell, hwz⟩
  · injection hcs with hcs
    exact ⟨none, 0, 0, [], hcs, row_nil W⟩
  · injection hcs with hcs
    have hz' : zs.length = c := by simpa using hz
    have hr : ∀ z ∈ zs, 0 ≤ z ∧ z < 256 := by
      intro z hz
      have := hwz z hz
      simp [Lit.wf, IntKind.min, IntKind.max, IntKind.signed, IntKind.bits] at this
      omega
    have e : u8s ((zs.take l).map fun z => UInt8.ofNat z.toNat) = (List.range l).map fun i => .int .u8 (zs.getD i 0) := by
      apply List.ext_getElem?
      intro i
      unfold u8s
      rw [List.getElem?_map, List.getElem?_map, List.getElem?_take, List.getElem?_map]
      by_cases hi : i < l
      · rw [if_pos hi, List.getElem?_range hi]
        have hil : i < zs.length := by omega
        have := hr zs[i] (List.getElem_mem hil)
        simp [List.getD_eq_getElem?_getD, hil, u8]
        omega
      · rw [if_neg hi, List.getElem?_eq_none (by simp; omega)]
        rfl
    refine ⟨some a, l, c, (zs.take l).map fun z => UInt8.ofNat z.toNat, hcs, ?_⟩
    rw [e]
    exact row_in hl hm (by omega) hcell

theorem open_acts {fuel : Nat} {v : Value} {x : DataW H × List MemPlace} (h : DataW.trod enc Try.prog W 0 (fun _ => true) true fuel 22 [v] = some x) :
    ∃ a n cap l, v = .slice a n cap ∧ Acts W a n cap l := by
  have c33 : Try.prog.cellsOf 33 = 3 := by kernel_rfl
  have c3 : Try.prog.cellsOf 3 = 1 := by kernel_rfl
  rcases open_slice Try.underlying22 h with ⟨hcs, _⟩ | ⟨a, l, c, m, n, D, Pl, hcs, _, hl, hm, hmm, _, hi⟩
  · injection hcs with hcs
    exact ⟨none, 0, 0, [], hcs, rfl, Nat.le_refl _, by simp [maxLen], by simp, .inl rfl⟩
  · injection hcs with hcs
    simp only [if_true] at hmm
    have each : ∀ i, i < l → ∃ q : A, q.Ok ∧ W.cell? (a.add (i * 3)) = some (.int .i64 q.kind) ∧ W.cell? (a.add (i * 3 + 1)) = some (.int .i64 q.i) ∧ W.cell? (a.add (i * 3 + 2)) = some (.int .i64 q.n) := by
      intro i hil
      obtain ⟨cs', h1, h2⟩ := hi i (by omega)
      rw [c33] at h1
      obtain ⟨_, hlen, hcell⟩ := World.cells?_some h1
      obtain ⟨xs, k, _, _, _, hxl, hf⟩ := DataW.trod_struct Try.underlying33 h2
      match cs', hlen with
      | [v0, v1, v2], _ =>
        have g0 := hf 0 _ rfl
        have g1 := hf 1 _ rfl
        have g2 := hf 2 _ rfl
        match xs, hxl with
        | [y0, y1, y2], _ =>
          simp [c3] at g0 g1 g2
          obtain ⟨n0, e0, _, w0⟩ := DataW.trod_int Try.underlying3 g0
          obtain ⟨n1, e1, _, w1⟩ := DataW.trod_int Try.underlying3 g1
          obtain ⟨n2, e2, _, w2⟩ := DataW.trod_int Try.underlying3 g2
          injection e0 with e0
          injection e1 with e1
          injection e2 with e2
          subst e0 e1 e2
          have q0 := hcell 0 (by omega)
          have q1 := hcell 1 (by omega)
          have q2 := hcell 2 (by omega)
          rw [add_add] at q0 q1 q2
          exact ⟨⟨n0, n1, n2⟩, ⟨wf_i64 w0, wf_i64 w1, wf_i64 w2⟩, q0, q1, q2⟩
    obtain ⟨q, hq⟩ := choose_lt each
    refine ⟨some a, l, c, (List.range l).map q, hcs, by simp, hl, hm, ?_, ?_⟩
    · intro x hx
      obtain ⟨i, hi', rfl⟩ := List.mem_map.1 hx
      exact (hq i (List.mem_range.1 hi')).1
    · by_cases h0 : l = 0
      · subst h0; exact .inl rfl
      · obtain ⟨b, off, spot⟩ := a
        have hc0 := (hq 0 (by omega)).2.1
        have hspot : spot = none := by simpa [Addr.add] using World.cell?_spot hc0
        subst hspot
        refine .inr ⟨b, off, rfl, by simpa [Addr.add] using World.block_lt_of_cell? W _ hc0, fun i x hx => ?_⟩
        have hil : i < l := by have := (List.getElem?_eq_some_iff.1 hx).1; simpa using this
        have hxq : x = q i := by simp [hil] at hx; exact hx.symm
        subst hxq
        obtain ⟨_, h1, h2, h3⟩ := hq i hil
        rw [addr_add] at h1 h2 h3
        rw [← Nat.add_assoc] at h2 h3
        exact ⟨h1, h2, h3⟩

theorem open_bytes {v : Value} {d : DataW H} {p : List MemPlace} (h : DataW.Trod enc Try.prog W 0 (fun _ => true) true 58 v d p) (hv : ∃ a n c, v = .slice a n c) :
    ∃ a n cap zs, v = .slice a n cap ∧ Row W a n cap (u8s zs) := by
  obtain ⟨a, n, c, rfl⟩ := hv
  obtain ⟨fuel, hf⟩ := h
  exact open_u8s hf
theorem open_lot {v : Value} {d : DataW H} {p : List MemPlace} (h : DataW.Trod enc Try.prog W 0 (fun _ => true) true 22 v d p) (hv : ∃ a n c, v = .slice a n c) :
    ∃ a n cap l, v = .slice a n cap ∧ Acts W a n cap l := by
  obtain ⟨a, n, c, rfl⟩ := hv
  obtain ⟨fuel, hf⟩ := h
  exact open_acts hf
end
end Go.Proofs.Ytcdihcloihnpkaa.B
