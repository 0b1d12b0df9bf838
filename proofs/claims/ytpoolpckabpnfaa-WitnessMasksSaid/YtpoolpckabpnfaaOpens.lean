/-
  Strings, rows of strings, of bools, and what a crash leaves, that a statement is handed, read as in memory.
-/
import Derived.Test.YtpoolpckabpnfaaRows
import Derived.Test.YtpoolpckabpnfaaCel7
import Derived.ProofKit
import Derived.OpenShut
import Derived.ShutString
import Derived.ChangeOld
import Derived.SliceStrings
import Derived.Lib.SmallJoins
import Derived.Deep.SlicePairs
import Derived.Deep.Grids
namespace Go.Proofs.Ytpoolpckabpnfaa
open Go.ChangeShapes Go.WideShapes Go.ChangeAt Go.RowKit Go.Joins Go.Deep
set_option linter.unusedVariables false
set_option linter.unusedSimpArgs false
set_option maxRecDepth 20000

theorem own : ownKnob Try.prog.godebug = none := by kernel_rfl
theorem laidOut : laidOutB Try.prog = true := by kernel_rfl

theorem addr_add {b off : Nat} (k : Nat) : (⟨b, off, none⟩ : Addr).add k = ⟨b, off + k, none⟩ := by by_cases g : k = 0 <;> simp [Addr.add, g]

theorem row_in {w : World} {a : Addr} {len cap : Nat} {f : Nat → Value} {m : Nat} (hl : len ≤ cap) (hm : cap ≤ maxLen) (hlm : len ≤ m) (hc : ∀ i, i < m → w.cell? (a.add i) = some (f i)) :
    Row w (some a) len cap ((List.range len).map f) := by
  refine ⟨by simp, hl, hm, ?_⟩
  by_cases h0 : len = 0
  · subst h0; exact .inl rfl
  · obtain ⟨b, off, spot⟩ := a
    have hc0 := hc 0 (by omega)
    have hspot : spot = none := by simpa [Addr.add] using World.cell?_spot hc0
    subst hspot
    refine .inr ⟨b, off, rfl, by simpa [Addr.add] using World.block_lt_of_cell? w _ hc0, fun i hi => ?_⟩
    have := hc i (by omega)
    rw [addr_add] at this
    rw [this]
    simp [hi]

theorem wf_i64 {x : Int} (h : (Lit.int .i64 x).wf = true) : -9223372036854775808 ≤ x ∧ x ≤ 9223372036854775807 := wf_int h

section
variable {H : Type} {enc : TypeId × Value → H} {W : World}

theorem open_strs {v : Value} {d : DataW H} {p : List MemPlace} (h : DataW.Trod enc Try.prog W 0 (fun _ => true) true 84 v d p) (hv : ∃ a n c, v = .slice a n c) :
    ∃ a n cap ts, v = .slice a n cap ∧ Row W a n cap (C.strs ts) := by
  obtain ⟨a, n, c, rfl⟩ := hv
  obtain ⟨fuel, hf⟩ := h
  rcases open_strings Try.underlying84 Try.underlying9 (by kernel_rfl) hf with ⟨hcs, _⟩ | ⟨a, l, c, ss, hcs, _, hl, hm, hz, _, hcell, hwz⟩
  · injection hcs with hcs
    exact ⟨none, 0, 0, [], hcs, row_nil W⟩
  · injection hcs with hcs
    have hz' : ss.length = c := by simpa using hz
    have e : C.strs (ss.take l) = (List.range l).map fun i => .string (ss.getD i ByteArray.empty) := by
      apply List.ext_getElem?
      intro i
      unfold C.strs
      rw [List.getElem?_map, List.getElem?_take, List.getElem?_map]
      by_cases hi : i < l
      · rw [if_pos hi, List.getElem?_range hi]
        simp [List.getD_eq_getElem?_getD, show i < ss.length by omega]
      · rw [if_neg hi, List.getElem?_eq_none (by simp; omega)]
        rfl
    refine ⟨some a, l, c, ss.take l, hcs, ?_⟩
    rw [e]
    exact row_in hl hm (by omega) hcell

theorem open_bits {v : Value} {d : DataW H} {p : List MemPlace} (h : DataW.Trod enc Try.prog W 0 (fun _ => true) true 47 v d p) (hv : ∃ a n c, v = .slice a n c) :
    ∃ (a : Option Addr) (n cap : Nat) (l : List Bool), v = .slice a n cap ∧ Row W a n cap (l.map Value.bool) := by
  obtain ⟨a, n, c, rfl⟩ := hv
  obtain ⟨fuel, hf⟩ := h
  rcases open_bools Try.underlying47 Try.underlying4 (by kernel_rfl) hf with ⟨hcs, _⟩ | ⟨a, l, c, B, hcs, _, hl, hm, _, hcell⟩
  · injection hcs with hcs
    exact ⟨none, 0, 0, [], hcs, row_nil W⟩
  · injection hcs with hcs
    refine ⟨some a, l, c, (List.range l).map B, hcs, ?_⟩
    rw [List.map_map]
    exact row_in hl hm (by omega) hcell

theorem open_crash {v : Value} {d : DataW H} {p : List MemPlace} (h : DataW.Trod enc Try.prog W 0 (fun _ => true) true 36 v d p) (hv : ∃ a n c, v = .slice a n c) :
    ∃ a n cap l, v = .slice a n cap ∧ KRow W a n cap l := by
  obtain ⟨a, n, c, rfl⟩ := hv
  obtain ⟨fuel, hf⟩ := h
  rcases open_slice_pairs Try.underlying36 Try.underlying54 (by kernel_rfl) rfl rfl (by kernel_rfl) (by kernel_rfl) hf with ⟨hcs, _⟩ | ⟨a, l, c, m, n, V0, V1, D0, D1, P0, P1, hcs, _, hl, hm, hmm, _, hi⟩
  · injection hcs with hcs
    exact ⟨none, 0, 0, [], hcs, krow_nil W⟩
  · injection hcs with hcs
    simp only [if_true] at hmm
    have each : ∀ i, i < l → ∃ q : Int × Int, W.cell? (a.add (i * 2)) = some (.int .i64 q.1) ∧ W.cell? (a.add (i * 2 + 1)) = some (.int .i64 q.2) := by
      intro i hil
      obtain ⟨h1, h2, h3, h4⟩ := hi i (by omega)
      obtain ⟨n0, e0, _, _⟩ := DataW.trod_int Try.underlying3 h3
      obtain ⟨n1, e1, _, _⟩ := DataW.trod_int Try.underlying3 h4
      injection e0 with e0
      injection e1 with e1
      exact ⟨(n0, n1), by rw [h1, e0], by rw [h2, e1]⟩
    obtain ⟨q, hq⟩ := choose_lt each
    refine ⟨some a, l, c, (List.range l).map q, hcs, by simp, hl, hm, ?_⟩
    by_cases h0 : l = 0
    · subst h0; exact .inl rfl
    · obtain ⟨b, off, spot⟩ := a
      have hc0 := (hq 0 (by omega)).1
      have hspot : spot = none := by simpa [Addr.add] using World.cell?_spot hc0
      subst hspot
      refine .inr ⟨b, off, rfl, by simpa [Addr.add] using World.block_lt_of_cell? W _ hc0, fun i x hx => ?_⟩
      have hil : i < l := by have := (List.getElem?_eq_some_iff.1 hx).1; simpa using this
      have hxq : x = q i := by simp [hil] at hx; exact hx.symm
      subst hxq
      have := hq i hil
      rw [addr_add, addr_add, ← Nat.add_assoc] at this
      exact this
end

/-- a string of a row that came in, read later -/
theorem strs_at {w w' : World} {a : Option Addr} {n c : Nat} {l : List ByteArray} (h : Row w a n c (C.strs l)) (hb : Below w.heap.size w w') {k : Nat} (hk : k < n) :
    ∃ b off t, a = some ⟨b, off, none⟩ ∧ l[k]? = some t ∧ w'.cell? ⟨b, off + k, none⟩ = some (.string t) ∧ b < w.heap.size := by
  obtain ⟨b, off, t, ha, hlt, ht, hc⟩ := C.row_str (c_row h) k hk
  exact ⟨b, off, t, ha, ht, by rw [hb.cell (p := ⟨b, off + k, none⟩) hlt]; exact hc, hlt⟩

theorem bits_at {w w' : World} {a : Option Addr} {n c : Nat} {l : List Bool} (h : Row w a n c (l.map Value.bool)) (hb : Below w.heap.size w w') {k : Nat} (hk : k < n) :
    ∃ b off x, a = some ⟨b, off, none⟩ ∧ w'.cell? ⟨b, off + k, none⟩ = some (.bool x) := by
  obtain ⟨h1, h2, h3, h4⟩ := h
  rw [List.length_map] at h1
  rcases h4 with h4 | ⟨b, off, ha, hlt, hc⟩
  · have := congrArg List.length h4; rw [List.length_map, List.length_nil] at this; omega
  · refine ⟨b, off, l[k]'(by omega), ha, ?_⟩
    rw [hb.cell (p := ⟨b, off + k, none⟩) hlt, hc k hk]
    simp [List.getElem?_eq_getElem (show k < l.length by omega)]
end Go.Proofs.Ytpoolpckabpnfaa
