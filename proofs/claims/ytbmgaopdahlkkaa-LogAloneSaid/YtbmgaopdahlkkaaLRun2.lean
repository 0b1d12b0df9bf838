/-
  A device that is made, a log that is opened for the first time and once more, with the numbers as a walk has them.
-/
import Derived.Test.YtbmgaopdahlkkaaLRun
namespace Go.Proofs.Ytbmgaopdahlkkaa
open Go.RowKit
set_option linter.unusedVariables false
set_option linter.unusedSimpArgs false
set_option maxRecDepth 20000

variable {w0 : World} {dB sB mB n : Nat} {d : M.Dv} {lB rb cB first N a b : Nat} {c : M.Cl} {L : M.Lg} {K : Int}

theorem u8_mod (x : Int) (k : Nat) (hk : 0 < k) (h : (Lit.int .u8 x).wf = true) {kI : Int} (hkI : kI = (k : Int)) : ∃ r : Nat, r < k ∧ x.tmod kI = (r : Int) := by
  subst hkI
  have hx : 0 ≤ x := by
    simp [Lit.wf, IntKind.min, IntKind.max, IntKind.signed, IntKind.bits] at h
    omega
  have h1 : 0 ≤ x.tmod k := Int.tmod_nonneg _ hx
  have h2 : x.tmod k < k := Int.tmod_lt_of_pos _ (by omega)
  exact ⟨(x.tmod k).toNat, by omega, by omega⟩

/-- a device of the call's own -/
structure Dev (w0 w : World) (dB sB mB n : Nat) (d : M.Dv) : Prop where
  dv : DevAt w dB sB mB n d
  fr : Free d
  be : Below w0.heap.size w0 w
  od : w0.heap.size ≤ dB ∧ w0.heap.size ≤ sB ∧ w0.heap.size ≤ mB

theorem Dev.below {w w' : World} (h : Dev w0 w dB sB mB n d) (hb : Below w.heap.size w w') : Dev w0 w' dB sB mB n d :=
  ⟨h.dv.but (But.of_below hb) (by simp) (by simp) (by simp), h.fr, h.be.trans (hb.mono h.be.size), h.od⟩
theorem Run.dev {w : World} (h : Run w0 w dB sB mB n d lB rb cB first N a b c L K) : Dev w0 w dB sB mB n d := ⟨h.dv, h.fr, h.be, h.od⟩

theorem run_new (w : World) (hb : Below w0.heap.size w0 w) (k : Nat) (hk : k ≤ 512) {x : Int} (hx : x = (k : Int)) :
    Calls Try.prog 9 #[.int .i64 x] w fun e w' => ∃ dB sB mB, e = .returned (.pointer (some ⟨dB, 0, none⟩)) ∧ Dev w0 w' dB sB mB k M.fresh ∧ Below w.heap.size w w' ∧ (w.heap.size ≤ dB ∧ w.heap.size ≤ sB ∧ w.heap.size ≤ mB) := by
  subst hx
  refine (new_yes k hk w).mono ?_
  rintro e w' ⟨dB, sB, mB, rfl, hd, hb', l1, l2, l3⟩
  have := hb.size
  exact ⟨dB, sB, mB, rfl, ⟨hd, Free.fresh, hb.trans (hb'.mono hb.size), by omega⟩, hb', l1, l2, l3⟩

theorem run_open (w : World) (h : Dev w0 w dB sB mB n d) (hgeo : Geo n first N a b) (hz : ∀ j : Nat, (first ≤ j ∧ j < first + N) ∨ j = a ∨ j = b → M.seen d j = M.zero)
    {x1 x2 x3 x4 : Int} (e1 : x1 = (first : Int)) (e2 : x2 = (N : Int)) (e3 : x3 = (a : Int)) (e4 : x4 = (b : Int)) :
    Calls Try.prog 10 #[.pointer (some ⟨dB, 0, none⟩), .int .i64 x1, .int .i64 x2, .int .i64 x3, .int .i64 x4] w fun e w' => ∃ lB cB rb d' c', e = .returned (.tuple #[.pointer (some ⟨lB, 0, none⟩), .int .i64 0]) ∧
      Run w0 w' dB sB mB n d' lB rb cB first N a b c' ⟨1, 1, 0, []⟩ 2 ∧ (w.heap.size ≤ lB ∧ w.heap.size ≤ cB ∧ w.heap.size ≤ rb) ∧ But [dB, sB, mB] w w' ∧ (∀ j : Nat, j ≠ a → j ≠ b → M.seen d' j = M.seen d j) := by
  subst e1 e2 e3 e4
  refine (open_new w h.dv h.fr hgeo hz).mono ?_
  rintro e w' ⟨lB, cB, rb, d', c', rfl, hd, hf, hl, ho, hb, hs, _⟩
  have := h.be.size
  exact ⟨lB, cB, rb, d', c', rfl, ⟨hd, hf, hl, h.be.trans (hb.to_below (by have := h.od; simp; omega) h.be.size), h.od, by omega⟩, ho, hb, hs⟩

theorem run_again (w : World) (h : Dev w0 w dB sB mB n d) (hgeo : Geo n first N a b) (hK : K ≤ 1000000000) (hg : M.Good (M.seen d) K first N a b c L)
    {x1 x2 x3 x4 : Int} (e1 : x1 = (first : Int)) (e2 : x2 = (N : Int)) (e3 : x3 = (a : Int)) (e4 : x4 = (b : Int)) :
    Calls Try.prog 10 #[.pointer (some ⟨dB, 0, none⟩), .int .i64 x1, .int .i64 x2, .int .i64 x3, .int .i64 x4] w fun e w' => ∃ lB cB rb d' c', e = .returned (.tuple #[.pointer (some ⟨lB, 0, none⟩), .int .i64 0]) ∧
      Run w0 w' dB sB mB n d' lB rb cB first N a b c' L.anew (K + 1) ∧ (w.heap.size ≤ lB ∧ w.heap.size ≤ cB ∧ w.heap.size ≤ rb) ∧ But [dB, sB, mB] w w' ∧ (∀ j : Nat, j ≠ a → j ≠ b → M.seen d' j = M.seen d j) := by
  subst e1 e2 e3 e4
  refine (open_again w h.dv h.fr hgeo hK hg).mono ?_
  rintro e w' ⟨lB, cB, rb, d', c', rfl, hd, hf, hl, ho, hb, hs, _⟩
  have := h.be.size
  exact ⟨lB, cB, rb, d', c', rfl, ⟨hd, hf, hl, h.be.trans (hb.to_below (by have := h.od; simp; omega) h.be.size), h.od, by omega⟩, ho, hb, hs⟩

/-- Trim, of a number as a walk has it -/
theorem Run.trim' {w : World} (h : Run w0 w dB sB mB n d lB rb cB first N a b c L K) (hK : K ≤ 1000000000) (m : Nat) {x : Int} (hx : x = L.head + (m : Int)) :
    Calls Try.prog 12 #[.pointer (some ⟨lB, 0, none⟩), .int .i64 x] w fun e w' => ∃ d' c', e = .returned (.int .i64 (M.cutR L m)) ∧ Run w0 w' dB sB mB n d' lB rb cB first N a b c' (M.cutL L m) (K + 1) ∧
      But [dB, sB, mB, cB, lB, rb] w w' ∧ (∀ j : Nat, j ≠ a → j ≠ b → M.seen d' j = M.seen d j) := by subst hx; exact h.trim hK m

/-- an act's own copy -/
theorem act_cells {w w' : World} (x : A) (hb : Below (w.heap.size + 1) (w.alloc (.cells #[.int .i64 x.kind, .int .i64 x.i, .string x.s, .slice x.aL x.k x.cL] 40)) w') :
    w'.cell? ⟨w.heap.size, 0, none⟩ = some (.int .i64 x.kind) ∧ w'.cell? ⟨w.heap.size, 1, none⟩ = some (.int .i64 x.i) ∧ w'.cell? ⟨w.heap.size, 2, none⟩ = some (.string x.s) := by
  refine ⟨?_, ?_, ?_⟩
  · rw [hb.cell (p := ⟨w.heap.size, 0, none⟩) (Nat.lt_succ_self _), World.cell?_alloc_mark]; rfl
  · rw [hb.cell (p := ⟨w.heap.size, 1, none⟩) (Nat.lt_succ_self _), World.cell?_alloc_mark]; rfl
  · rw [hb.cell (p := ⟨w.heap.size, 2, none⟩) (Nat.lt_succ_self _), World.cell?_alloc_mark]; rfl
end Go.Proofs.Ytbmgaopdahlkkaa
