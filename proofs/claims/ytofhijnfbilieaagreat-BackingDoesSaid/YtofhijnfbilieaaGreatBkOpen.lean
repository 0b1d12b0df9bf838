/-
  Messages, rows of messages, rows of acts that a statement is handed, read as in memory.
-/
import Derived.Test.YtofhijnfbilieaaGreatOpens
import Derived.Test.YtofhijnfbilieaaGreatMlAwk
import Derived.Deep.Slices
import Derived.Deep.Fields
import Derived.Deep.Grids
namespace Go.Proofs.YtofhijnfbilieaaGreat
open Go.ChangeShapes Go.WideShapes Go.ChangeAt Go.RowKit Go.Joins Go.Deep
set_option linter.unusedVariables false
set_option linter.unusedSimpArgs false
set_option maxRecDepth 20000
namespace Bk
open Ml (Mg msgV)

/-- an act, with where its parts lie -/
structure Ac where
  kind : Int
  n : Int
  m : Mg
  s : ByteArray
  aL : Option Addr
  nL : Nat
  cL : Nat
  l : List (Int × Int)
instance : Inhabited Ac := ⟨⟨0, 0, default, ⟨#[]⟩, none, 0, 0, []⟩⟩
def Ac.cells (x : Ac) : List Value := [.int .i64 x.kind, .int .i64 x.n, .int .i64 x.m.kind, .int .i64 x.m.epoch, .int .i64 x.m.seq, .int .i64 x.m.n, .int .i64 x.m.block, .int .i64 x.m.client, .int .i64 x.m.e, .int .i64 x.m.t0, .int .i64 x.m.t1, .int .i64 x.m.t2, .int .i64 x.m.t3, .string x.m.data, .string x.m.row, .string x.s, .slice x.aL x.nL x.cL]
def actV (x : Ac) : Value := .agg #[.int .i64 x.kind, .int .i64 x.n, .int .i64 x.m.kind, .int .i64 x.m.epoch, .int .i64 x.m.seq, .int .i64 x.m.n, .int .i64 x.m.block, .int .i64 x.m.client, .int .i64 x.m.e, .int .i64 x.m.t0, .int .i64 x.m.t1, .int .i64 x.m.t2, .int .i64 x.m.t3, .string x.m.data, .string x.m.row, .string x.s, .slice x.aL x.nL x.cL]
def Ac.Ok (w : World) (x : Ac) : Prop := KRow w x.aL x.nL x.cL x.l ∧ (-9223372036854775808 ≤ x.n ∧ x.n ≤ 9223372036854775807) ∧ x.s.size ≤ maxLen

/-- acts that came in -/
def Acts (w : World) (a : Option Addr) (n c : Nat) (l : List Ac) : Prop :=
  l.length = n ∧ n ≤ c ∧ c ≤ maxLen ∧ (∀ x ∈ l, x.Ok w) ∧ (l = [] ∨ ∃ b off, a = some ⟨b, off, none⟩ ∧ b < w.heap.size ∧ ∀ k x, l[k]? = some x → ∀ i v, x.cells[i]? = some v → w.cell? ⟨b, off + (k * 17 + i), none⟩ = some v)
/-- messages that came in -/
def Ms (w : World) (a : Option Addr) (n c : Nat) (l : List Mg) : Prop :=
  l.length = n ∧ n ≤ c ∧ c ≤ maxLen ∧ (l = [] ∨ ∃ b off, a = some ⟨b, off, none⟩ ∧ b < w.heap.size ∧ ∀ k x, l[k]? = some x → ∀ i v, x.cells.toList[i]? = some v → w.cell? ⟨b, off + (k * 13 + i), none⟩ = some v)

section
variable {H : Type} {enc : TypeId × Value → H} {W : World}

theorem msg_cells {fuel : Nat} {c0 c1 c2 c3 c4 c5 c6 c7 c8 c9 c10 c11 c12 : Value} {x : DataW H × List MemPlace} (h : DataW.trod enc Tryz.prog W 0 (fun _ => true) true fuel 37 [c0, c1, c2, c3, c4, c5, c6, c7, c8, c9, c10, c11, c12] = some x) :
    ∃ m : Mg, [c0, c1, c2, c3, c4, c5, c6, c7, c8, c9, c10, c11, c12] = m.cells.toList := by
  have k3 : Tryz.prog.cellsOf 3 = 1 := by kernel_rfl
  have k2 : Tryz.prog.cellsOf 2 = 1 := by kernel_rfl
  have ke : Tryz.prog.cellsOf 29 = 1 := by kernel_rfl
  have ka : Tryz.prog.cellsOf 35 = 4 := by kernel_rfl
  have k9 : Tryz.prog.cellsOf 9 = 1 := by kernel_rfl
  obtain ⟨xs, k, _, _, _, hxl, hf⟩ := DataW.trod_struct Tryz.underlying37 h
  have g0 := hf 0 _ rfl
  have g1 := hf 1 _ rfl
  have g2 := hf 2 _ rfl
  have g3 := hf 3 _ rfl
  have g4 := hf 4 _ rfl
  have g5 := hf 5 _ rfl
  have g6 := hf 6 _ rfl
  have g7 := hf 7 _ rfl
  have g8 := hf 8 _ rfl
  have g9 := hf 9 _ rfl
  match xs, hxl with
  | [y0, y1, y2, y3, y4, y5, y6, y7, y8, y9], _ =>
    simp [k3] at g0 g4 g5
    simp [k2] at g1 g2 g3
    simp [ke] at g6
    simp [ka] at g7
    simp [k9] at g8 g9
    obtain ⟨zs, k', _, _, _, hzl, hz⟩ := DataW.trod_array Tryz.underlying35 g7
    have a0 := hz 0 (by omega)
    have a1 := hz 1 (by omega)
    have a2 := hz 2 (by omega)
    have a3 := hz 3 (by omega)
    match zs, hzl with
    | [z0, z1, z2, z3], _ =>
      simp [k2] at a0 a1 a2 a3
      obtain ⟨n0, e_n0, _, _⟩ := DataW.trod_int Tryz.underlying3 g0
      injection e_n0 with e_n0
      obtain ⟨n1, e_n1, _, _⟩ := DataW.trod_int Tryz.underlying2 g1
      injection e_n1 with e_n1
      obtain ⟨n2, e_n2, _, _⟩ := DataW.trod_int Tryz.underlying2 g2
      injection e_n2 with e_n2
      obtain ⟨n3, e_n3, _, _⟩ := DataW.trod_int Tryz.underlying2 g3
      injection e_n3 with e_n3
      obtain ⟨n4, e_n4, _, _⟩ := DataW.trod_int Tryz.underlying3 g4
      injection e_n4 with e_n4
      obtain ⟨n5, e_n5, _, _⟩ := DataW.trod_int Tryz.underlying3 g5
      injection e_n5 with e_n5
      obtain ⟨n6, e_n6, _, _⟩ := DataW.trod_int Tryz.underlying29 g6
      injection e_n6 with e_n6
      obtain ⟨t0, e_t0, _, _⟩ := DataW.trod_int Tryz.underlying2 a0
      injection e_t0 with e_t0
      obtain ⟨t1, e_t1, _, _⟩ := DataW.trod_int Tryz.underlying2 a1
      injection e_t1 with e_t1
      obtain ⟨t2, e_t2, _, _⟩ := DataW.trod_int Tryz.underlying2 a2
      injection e_t2 with e_t2
      obtain ⟨t3, e_t3, _, _⟩ := DataW.trod_int Tryz.underlying2 a3
      injection e_t3 with e_t3
      obtain ⟨s0, e_s0, _, _⟩ := DataW.trod_string Tryz.underlying9 g8
      injection e_s0 with e_s0
      obtain ⟨s1, e_s1, _, _⟩ := DataW.trod_string Tryz.underlying9 g9
      injection e_s1 with e_s1
      subst e_n0 e_n1 e_n2 e_n3 e_n4 e_n5 e_n6 e_t0 e_t1 e_t2 e_t3 e_s0 e_s1
      exact ⟨⟨n0, n1, n2, n3, n4, n5, n6, t0, t1, t2, t3, s0, s1⟩, rfl⟩

theorem open_keepsC {fuel : Nat} {v : Value} {x : DataW H × List MemPlace} (h : DataW.trod enc Tryz.prog W 0 (fun _ => true) true fuel 38 [v] = some x) :
    ∃ a n cap l, v = .slice a n cap ∧ KRow W a n cap l := by
  rcases open_slice_pairs Tryz.underlying38 Tryz.underlying107 (by kernel_rfl) rfl rfl (by kernel_rfl) (by kernel_rfl) h with ⟨hcs, _⟩ | ⟨a, l, c, m, n, V0, V1, D0, D1, P0, P1, hcs, _, hl, hm, hmm, _, hi⟩
  · injection hcs with hcs
    exact ⟨none, 0, 0, [], hcs, krow_nil W⟩
  · injection hcs with hcs
    simp only [if_true] at hmm
    have each : ∀ i, i < l → ∃ q : Int × Int, W.cell? (a.add (i * 2)) = some (.int .i64 q.1) ∧ W.cell? (a.add (i * 2 + 1)) = some (.int .i64 q.2) := by
      intro i hil
      obtain ⟨h1, h2, h3, h4⟩ := hi i (by omega)
      obtain ⟨n0, e0, _, _⟩ := DataW.trod_int Tryz.underlying3 h3
      obtain ⟨n1, e1, _, _⟩ := DataW.trod_int Tryz.underlying3 h4
      injection e0 with e0
      injection e1 with e1
      exact ⟨(n0, n1), by rw [h1, e0], by rw [h2, e1]⟩
    obtain ⟨q, hq⟩ := choose_lt each
    refine ⟨some a, l, c, (List.range l).map q, hcs, by simp, hl, hm, ?_⟩
    by_cases h0 : l = 0
    · subst h0; exact .inl rfl
    · obtain ⟨b, off, spot⟩ := a
      have hc0 := (hq 0 (by omega)).1
      have hspot : spot = none := by simpa [Addr.add] using World.cell?_spot hc0
      subst hspot
      refine .inr ⟨b, off, rfl, by simpa [Addr.add] using World.block_lt_of_cell? W _ hc0, fun i x hx => ?_⟩
      have hil : i < l := by have := (List.getElem?_eq_some_iff.1 hx).1; simpa using this
      have hxq : x = q i := by simp [hil] at hx; exact hx.symm
      subst hxq
      have := hq i hil
      rw [addr_add, addr_add, ← Nat.add_assoc] at this
      exact this

theorem open_acts {v : Value} {d : DataW H} {p : List MemPlace} (h : DataW.Trod enc Tryz.prog W 0 (fun _ => true) true 22 v d p) (hv : ∃ a n c, v = .slice a n c) :
    ∃ a n cap l, v = .slice a n cap ∧ Acts W a n cap l := by
  obtain ⟨a, n, c, rfl⟩ := hv
  obtain ⟨fuel, hf⟩ := h
  have c41 : Tryz.prog.cellsOf 40 = 17 := by kernel_rfl
  have k3 : Tryz.prog.cellsOf 3 = 1 := by kernel_rfl
  have k9 : Tryz.prog.cellsOf 9 = 1 := by kernel_rfl
  have km : Tryz.prog.cellsOf 37 = 13 := by kernel_rfl
  have kl : Tryz.prog.cellsOf 38 = 1 := by kernel_rfl
  rcases open_slice Tryz.underlying22 hf with ⟨hcs, _⟩ | ⟨a, l, c, m, n, D, Pl, hcs, _, hl, hm, hmm, _, hi⟩
  · injection hcs with hcs
    exact ⟨none, 0, 0, [], hcs, rfl, Nat.le_refl _, by simp [maxLen], by simp, .inl rfl⟩
  · injection hcs with hcs
    simp only [if_true] at hmm
    have each : ∀ i, i < l → ∃ q : Ac, q.Ok W ∧ ∀ j v, q.cells[j]? = some v → W.cell? (a.add (i * 17 + j)) = some v := by
      intro i hil
      obtain ⟨cs', h1, h2⟩ := hi i (by omega)
      rw [c41] at h1
      obtain ⟨_, hlen, hcell⟩ := World.cells?_some h1
      obtain ⟨xs, k, _, _, _, hxl, hf⟩ := DataW.trod_struct Tryz.underlying40 h2
      match cs', hlen with
      | [v0, v1, v2, v3, v4, v5, v6, v7, v8, v9, v10, v11, v12, v13, v14, v15, v16], _ =>
        have g0 := hf 0 _ rfl
        have g1 := hf 1 _ rfl
        have g2 := hf 2 _ rfl
        have g3 := hf 3 _ rfl
        have g4 := hf 4 _ rfl
        match xs, hxl with
        | [y0, y1, y2, y3, y4], _ =>
          simp [k3] at g0 g1
          simp [km] at g2
          simp [k9] at g3
          simp [kl] at g4
          obtain ⟨n0, e0, _, w0⟩ := DataW.trod_int Tryz.underlying3 g0
          obtain ⟨n1, e1, _, w1⟩ := DataW.trod_int Tryz.underlying3 g1
          obtain ⟨m, e2⟩ := msg_cells g2
          obtain ⟨zs, e3, _, w3⟩ := DataW.trod_string Tryz.underlying9 g3
          obtain ⟨aL, nL, cL, ks, e4, hL⟩ := open_keepsC g4
          injection e0 with e0
          injection e1 with e1
          injection e3 with e3
          simp [Mg.cells] at e2
          obtain ⟨rfl, rfl, rfl, rfl, rfl, rfl, rfl, rfl, rfl, rfl, rfl, rfl, rfl⟩ := e2
          subst e0 e1 e3 e4
          refine ⟨⟨n0, n1, m, zs, aL, nL, cL, ks⟩, ⟨hL, wf_i64 w1, by simpa [Lit.wf] using w3⟩, fun j v hj => ?_⟩
          have hjl : j < 17 := by have := (List.getElem?_eq_some_iff.1 hj).1; simpa [Ac.cells] using this
          have := hcell j (by omega)
          rw [add_add] at this
          rw [this]
          exact hj
    obtain ⟨q, hq⟩ := choose_lt each
    refine ⟨some a, l, c, (List.range l).map q, hcs, by simp, hl, hm, ?_, ?_⟩
    · intro x hx
      obtain ⟨i, hi', rfl⟩ := List.mem_map.1 hx
      exact (hq i (List.mem_range.1 hi')).1
    · by_cases h0 : l = 0
      · subst h0; exact .inl rfl
      · obtain ⟨b, off, spot⟩ := a
        have hc0 := (hq 0 (by omega)).2 0 _ rfl
        have hspot : spot = none := by simpa [Addr.add] using World.cell?_spot hc0
        subst hspot
        refine .inr ⟨b, off, rfl, by simpa [Addr.add] using World.block_lt_of_cell? W _ hc0, fun i x hx j v hv => ?_⟩
        have hil : i < l := by have := (List.getElem?_eq_some_iff.1 hx).1; simpa using this
        have hxq : x = q i := by simp [hil] at hx; exact hx.symm
        subst hxq
        have := (hq i hil).2 j v hv
        rw [addr_add] at this
        exact this
end
end Bk
end Go.Proofs.YtofhijnfbilieaaGreat
