/-
  A message that a statement is handed, read as in memory.
-/
import Derived.Test.YtpggpgbkeafgnaaRows
import Derived.Test.YtpggpgbkeafgnaaMlAwk
import Derived.ProofKit
import Derived.OpenShut
import Derived.ShutString
import Derived.ChangeOld
import Derived.Lib.SmallJoins
import Derived.Deep.Slices
import Derived.Deep.Fields
import Derived.Deep.Grids
namespace Go.Proofs.Ytpggpgbkeafgnaa
open Go.ChangeShapes Go.WideShapes Go.ChangeAt Go.RowKit Go.Joins Go.Deep
set_option linter.unusedVariables false
set_option linter.unusedSimpArgs false
set_option maxRecDepth 20000

theorem own : ownKnob Try.prog.godebug = none := by kernel_rfl
theorem laidOut : laidOutB Try.prog = true := by kernel_rfl
namespace Ml
section
variable {H : Type} {enc : TypeId × Value → H} {W : World}

theorem arr13 {cs : Array Value} (h : cs.size = 13) : ∃ c0 c1 c2 c3 c4 c5 c6 c7 c8 c9 c10 c11 c12, cs = #[c0, c1, c2, c3, c4, c5, c6, c7, c8, c9, c10, c11, c12] := by
  obtain ⟨l⟩ := cs
  match l, h with
  | [c0, c1, c2, c3, c4, c5, c6, c7, c8, c9, c10, c11, c12], _ => exact ⟨c0, c1, c2, c3, c4, c5, c6, c7, c8, c9, c10, c11, c12, rfl⟩

theorem open_msg {v : Value} {d : DataW H} {p : List MemPlace} {base : Nat} (hv : Value.okWide Try.prog W .any base 25 v) (h : DataW.Trod enc Try.prog W 0 (fun _ => true) true 25 v d p) :
    ∃ m : Mg, v = msgV m := by
  obtain ⟨cs, rfl, hsz⟩ := okWide_struct Try.underlying25 hv
  obtain ⟨c0, c1, c2, c3, c4, c5, c6, c7, c8, c9, c10, c11, c12, rfl⟩ := arr13 (hsz.trans (by kernel_rfl))
  obtain ⟨fuel, hf⟩ := h
  have k3 : Try.prog.cellsOf 3 = 1 := by kernel_rfl
  have k2 : Try.prog.cellsOf 2 = 1 := by kernel_rfl
  have ke : Try.prog.cellsOf 22 = 1 := by kernel_rfl
  have ka : Try.prog.cellsOf 23 = 4 := by kernel_rfl
  have k9 : Try.prog.cellsOf 9 = 1 := by kernel_rfl
  obtain ⟨xs, k, _, _, _, hxl, hf⟩ := DataW.trod_struct Try.underlying25 hf
  have g0 := hf 0 _ rfl
  have g1 := hf 1 _ rfl
  have g2 := hf 2 _ rfl
  have g3 := hf 3 _ rfl
  have g4 := hf 4 _ rfl
  have g5 := hf 5 _ rfl
  have g6 := hf 6 _ rfl
  have g7 := hf 7 _ rfl
  have g8 := hf 8 _ rfl
  have g9 := hf 9 _ rfl
  match xs, hxl with
  | [y0, y1, y2, y3, y4, y5, y6, y7, y8, y9], _ =>
    simp [k3, Value.cells] at g0 g4 g5
    simp [k2, Value.cells] at g1 g2 g3
    simp [ke, Value.cells] at g6
    simp [ka, Value.cells] at g7
    simp [k9, Value.cells] at g8 g9
    obtain ⟨zs, k', _, _, _, hzl, hz⟩ := DataW.trod_array Try.underlying23 g7
    have a0 := hz 0 (by omega)
    have a1 := hz 1 (by omega)
    have a2 := hz 2 (by omega)
    have a3 := hz 3 (by omega)
    match zs, hzl with
    | [z0, z1, z2, z3], _ =>
      simp [k2] at a0 a1 a2 a3
      obtain ⟨n0, e_n0, _, _⟩ := DataW.trod_int Try.underlying3 g0
      injection e_n0 with e_n0
      obtain ⟨n1, e_n1, _, _⟩ := DataW.trod_int Try.underlying2 g1
      injection e_n1 with e_n1
      obtain ⟨n2, e_n2, _, _⟩ := DataW.trod_int Try.underlying2 g2
      injection e_n2 with e_n2
      obtain ⟨n3, e_n3, _, _⟩ := DataW.trod_int Try.underlying2 g3
      injection e_n3 with e_n3
      obtain ⟨n4, e_n4, _, _⟩ := DataW.trod_int Try.underlying3 g4
      injection e_n4 with e_n4
      obtain ⟨n5, e_n5, _, _⟩ := DataW.trod_int Try.underlying3 g5
      injection e_n5 with e_n5
      obtain ⟨n6, e_n6, _, _⟩ := DataW.trod_int Try.underlying22 g6
      injection e_n6 with e_n6
      obtain ⟨t0, e_t0, _, _⟩ := DataW.trod_int Try.underlying2 a0
      injection e_t0 with e_t0
      obtain ⟨t1, e_t1, _, _⟩ := DataW.trod_int Try.underlying2 a1
      injection e_t1 with e_t1
      obtain ⟨t2, e_t2, _, _⟩ := DataW.trod_int Try.underlying2 a2
      injection e_t2 with e_t2
      obtain ⟨t3, e_t3, _, _⟩ := DataW.trod_int Try.underlying2 a3
      injection e_t3 with e_t3
      obtain ⟨s0, e_s0, _, _⟩ := DataW.trod_string Try.underlying9 g8
      injection e_s0 with e_s0
      obtain ⟨s1, e_s1, _, _⟩ := DataW.trod_string Try.underlying9 g9
      injection e_s1 with e_s1
      subst e_n0 e_n1 e_n2 e_n3 e_n4 e_n5 e_n6 e_t0 e_t1 e_t2 e_t3 e_s0 e_s1
      exact ⟨⟨n0, n1, n2, n3, n4, n5, n6, t0, t1, t2, t3, s0, s1⟩, rfl⟩
end
end Ml
end Go.Proofs.Ytpggpgbkeafgnaa
