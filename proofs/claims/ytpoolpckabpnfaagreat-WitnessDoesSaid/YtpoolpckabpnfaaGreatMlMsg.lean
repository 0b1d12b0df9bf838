/-
  The message of a record.
-/
import Derived.Test.YtpoolpckabpnfaaGreatMlIs
import Derived.Laws.IdiomCopy
import Derived.Deep.MidRow
import Derived.Deep.CutBlock
import Derived.Deep.DeepCutAuto
namespace Go.Proofs.YtpoolpckabpnfaaGreat.Ml
open Go.RowKit
open C (Row Own i64s strs row_below own_below RecAt)
set_option linter.unusedVariables false
set_option linter.unusedSimpArgs false
set_option maxRecDepth 20000

/-- where a message's record lies -/
structure MC (w : World) (m : Mg) (b off b2 off2 : Nat) : Prop where
  lt : b < w.heap.size
  lt2 : b2 < w.heap.size
  e0 : w.cell? ⟨b, off, none⟩ = some (.int .i64 m.epoch)
  e1 : w.cell? ⟨b, off + 1, none⟩ = some (.int .i64 m.seq)
  e2 : w.cell? ⟨b, off + 2, none⟩ = some (.int .i64 m.n)
  e3 : w.cell? ⟨b, off + 3, none⟩ = some (.int .i64 m.block)
  e4 : w.cell? ⟨b, off + 4, none⟩ = some (.int .i64 m.client)
  e5 : w.cell? ⟨b, off + 5, none⟩ = some (.int .i64 m.e)
  e6 : w.cell? ⟨b, off + 6, none⟩ = some (.int .i64 m.t0)
  e7 : w.cell? ⟨b, off + 7, none⟩ = some (.int .i64 m.t1)
  e8 : w.cell? ⟨b, off + 8, none⟩ = some (.int .i64 m.t2)
  e9 : w.cell? ⟨b, off + 9, none⟩ = some (.int .i64 m.t3)
  s0 : w.cell? ⟨b2, off2, none⟩ = some (.string m.data)
  s1 : w.cell? ⟨b2, off2 + 1, none⟩ = some (.string m.row)
theorem rec_cells {w : World} {m : Mg} {aN : Option Addr} {cN : Nat} {aT : Option Addr} {cT : Nat} (h : RecAt w m.rc aN 10 cN aT 2 cT) :
    ∃ b off b2 off2, aN = some ⟨b, off, none⟩ ∧ aT = some ⟨b2, off2, none⟩ ∧ MC w m b off b2 off2 ∧ 10 ≤ cN ∧ cN ≤ maxLen ∧ 2 ≤ cT ∧ cT ≤ maxLen := by
  obtain ⟨⟨_, h1, h2, h3⟩, ⟨_, k1, k2, k3⟩⟩ := h
  rcases h3 with h3 | ⟨b, off, ha, hb, hc⟩
  · simp [Mg.rc, Mg.nums, i64s] at h3
  rcases k3 with k3 | ⟨b2, off2, ka, kb, kc⟩
  · simp [Mg.rc, Mg.texts, strs] at k3
  exact ⟨b, off, b2, off2, ha, ka, ⟨hb, kb, hc 0 (by omega), hc 1 (by omega), hc 2 (by omega), hc 3 (by omega), hc 4 (by omega), hc 5 (by omega), hc 6 (by omega), hc 7 (by omega), hc 8 (by omega), hc 9 (by omega), kc 0 (by omega), kc 1 (by omega)⟩, h1, h2, k1, k2⟩
theorem MC.below {w w' : World} {m : Mg} {b off b2 off2 : Nat} (h : MC w m b off b2 off2) (hb : Below w.heap.size w w') : MC w' m b off b2 off2 where
  lt := Nat.lt_of_lt_of_le h.lt hb.size
  lt2 := Nat.lt_of_lt_of_le h.lt2 hb.size
  e0 := (hb.cell h.lt).trans h.e0
  e1 := (hb.cell h.lt).trans h.e1
  e2 := (hb.cell h.lt).trans h.e2
  e3 := (hb.cell h.lt).trans h.e3
  e4 := (hb.cell h.lt).trans h.e4
  e5 := (hb.cell h.lt).trans h.e5
  e6 := (hb.cell h.lt).trans h.e6
  e7 := (hb.cell h.lt).trans h.e7
  e8 := (hb.cell h.lt).trans h.e8
  e9 := (hb.cell h.lt).trans h.e9
  s0 := (hb.cell h.lt2).trans h.s0
  s1 := (hb.cell h.lt2).trans h.s1

/-- a message in a block of its own -/
def MB (w : World) (g : Nat) (m : Mg) : Prop := w.heap[g]? = some (.cells m.cells 37 (0, 0))
theorem MB.lt {w : World} {g : Nat} {m : Mg} (h : MB w g m) : g < w.heap.size := lt_of_heap h
theorem MB.new (w : World) (m : Mg) : MB (w.alloc (.cells m.cells 37)) w.heap.size m := heap_alloc_new w _
theorem MB.below {w w' : World} {g : Nat} {m : Mg} (h : MB w g m) {B : Nat} (hb : Below B w w') (hB : g < B) : MB w' g m := by
  unfold MB; rw [hb.block g hB]; exact h
theorem MB.drew {w : World} {g : Nat} {m : Mg} (h : MB w g m) : MB w.drew g m := h
theorem MB.cell {w : World} {g : Nat} {m : Mg} (h : MB w g m) (o : Nat) : w.cell? ⟨g, o, none⟩ = m.cells[o]? := by unfold MB at h; simp [World.cell?, h]
theorem MB.fz {w : World} {g : Nat} {m : Mg} (h : MB w g m) (o : Nat) : w.frozen? ⟨g, o, none⟩ = false := by unfold MB at h; simp [World.frozen?, h]
theorem MB.there {w : World} {g : Nat} {m : Mg} (h : MB w g m) (j : Nat) (hj : j < 13) : (w.cell? ⟨g, j, none⟩).isSome = true := by
  rw [h.cell, Array.getElem?_eq_getElem (by simp [Mg.cells]; omega)]; rfl
theorem MB.cells {w : World} {g : Nat} {m : Mg} (h : MB w g m) : w.cell? ⟨g, 0, none⟩ = some (.int .i64 m.kind) ∧ w.cell? ⟨g, 1, none⟩ = some (.int .i64 m.epoch) ∧ w.cell? ⟨g, 2, none⟩ = some (.int .i64 m.seq) ∧ w.cell? ⟨g, 3, none⟩ = some (.int .i64 m.n) ∧ w.cell? ⟨g, 4, none⟩ = some (.int .i64 m.block) ∧ w.cell? ⟨g, 5, none⟩ = some (.int .i64 m.client) ∧ w.cell? ⟨g, 6, none⟩ = some (.int .i64 m.e) ∧
    w.cell? ⟨g, 7, none⟩ = some (.int .i64 m.t0) ∧ w.cell? ⟨g, 8, none⟩ = some (.int .i64 m.t1) ∧ w.cell? ⟨g, 9, none⟩ = some (.int .i64 m.t2) ∧ w.cell? ⟨g, 10, none⟩ = some (.int .i64 m.t3) ∧ w.cell? ⟨g, 11, none⟩ = some (.string m.data) ∧ w.cell? ⟨g, 12, none⟩ = some (.string m.row) :=
  ⟨h.cell 0, h.cell 1, h.cell 2, h.cell 3, h.cell 4, h.cell 5, h.cell 6, h.cell 7, h.cell 8, h.cell 9, h.cell 10, h.cell 11, h.cell 12⟩
theorem mb_set {w : World} {g : Nat} {m0 : Mg} (h : MB w g m0) (m : Mg) : MB (w.setCells g 0 m.cells.toList) g m := by
  obtain ⟨cur, h1, h2, h3⟩ := obj_setCells m.cells.toList 0 w m0.cells h (by simp [Mg.cells])
  unfold MB
  rw [h1]
  have : cur = m.cells := by
    apply Array.toList_inj.1
    rw [h3]
    simp [Mg.cells]
  rw [this]
theorem mb_set' {w : World} {g : Nat} {kind epoch seq n block client e t0 t1 t2 t3 : Int} {data row : ByteArray} {m0 : Mg} (h : MB w g m0) :
    MB (w.setCells g 0 [.int .i64 kind, .int .i64 epoch, .int .i64 seq, .int .i64 n, .int .i64 block, .int .i64 client, .int .i64 e, .int .i64 t0, .int .i64 t1, .int .i64 t2, .int .i64 t3, .string data, .string row]) g ⟨kind, epoch, seq, n, block, client, e, t0, t1, t2, t3, data, row⟩ := mb_set h ⟨kind, epoch, seq, n, block, client, e, t0, t1, t2, t3, data, row⟩
theorem mb_ts {w : World} {g : Nat} {kind epoch seq n block client e t0 t1 t2 t3 : Int} {data row : ByteArray} (h : MB w g ⟨kind, epoch, seq, n, block, client, e, 0, 0, 0, 0, data, row⟩) :
    MB (w.setCells g 7 (i64s [t0, t1, t2, t3])) g ⟨kind, epoch, seq, n, block, client, e, t0, t1, t2, t3, data, row⟩ := by
  obtain ⟨cur, h1, h2, h3⟩ := obj_setCells (i64s [t0, t1, t2, t3]) 7 w _ h (by simp [Mg.cells, i64s])
  unfold MB
  rw [h1]
  have : cur = (⟨kind, epoch, seq, n, block, client, e, t0, t1, t2, t3, data, row⟩ : Mg).cells := by
    apply Array.toList_inj.1
    rw [h3]
    simp [Mg.cells, i64s]
  rw [this]
theorem sets_below {w w' : World} {B : Nat} (h : Below B w w') {g o : Nat} (vs : List Value) (hg : B ≤ g) : Below B w (w'.setCells g o vs) := by
  obtain ⟨e1, e2, e3⟩ := os_setCells g vs o w'
  exact ⟨e1.trans h.os, e2.trans h.tape, e3.trans h.output, by rw [size_setCells]; exact h.size, fun k hk => (heap_setCells g vs o w' k (by omega)).trans (h.block k hk)⟩

theorem ret_msg {fn : Func} (hres : fn.results = #[.cell 2 37]) {R : Ending → World → Prop} {a : Act} {w : World} {g : Nat} {m : Mg} (h2 : a.tmps.getD 2 undef = .pointer (some ⟨g, 0, none⟩)) (hd : a.defers = []) (h : MB w g m)
    (hR : R (.returned (msgV m)) w) : bodyPost Tryz.prog fn R .ret a w := by
  have k0 := h.cell 0
  have k1 := h.cell 1
  have k2 := h.cell 2
  have k3 := h.cell 3
  have k4 := h.cell 4
  have k5 := h.cell 5
  have k6 := h.cell 6
  have k7 := h.cell 7
  have k8 := h.cell 8
  have k9 := h.cell 9
  have k10 := h.cell 10
  have k11 := h.cell 11
  have k12 := h.cell 12
  simp only [Mg.cells, List.getElem?_toArray, List.getElem?_cons_zero, List.getElem?_cons_succ] at k0 k1 k2 k3 k4 k5 k6 k7 k8 k9 k10 k11 k12
  simp only [Array.getD_eq_getD_getElem?] at h2
  refine bodyPost_ret_by ?_ hd hR
  simp [results, hres, h2, go_sem, k0, k1, k2, k3, k4, k5, k6, k7, k8, k9, k10, k11, k12, msgV, Mg.cells]

theorem step_copy_run {ops : Array Oper} {o : Oper} {a : Act} {w : World} {K : Act → World → Prop} {Q : Exit → Act → World → Prop} {E : Prop} (hgd : o.guard = none) (d s : Operand) (t t' : TypeId)
    (ho : o.op = .call { callee := .builtin .copy, args := #[d, s], argTypes := #[t, t'] }) (v u : Value) (hd : a.eval d = v) (hs : a.eval s = u) {v' : Value} {w' : World}
    (hr : (Builtin.copy_ #[t, t'] o.type #[v, u]).run Tryz.prog w = .ok v' w') (h : K (a.put o.dst v') w') : if Region.wanted o (yielded ops a.tmps) = true then Oper.wp Tryz.prog o a w K Q else E := by
  have hw : Region.wanted o (yielded ops a.tmps) = true := by simp [Region.wanted, hgd]
  rw [if_pos hw]
  unfold Oper.wp execOp
  simp only [ho, resolve, invoke, builtin, Sem.run_bind, Sem.run_pure, Result.andThen_ok, List.map_toArray, List.map_cons, List.map_nil, hd, hs, hr]
  exact h
theorem copy_ts {w : World} {g b off cN : Nat} {m : Mg} (ty : TypeId) (h : MB w g m) {t0 t1 t2 t3 : Int} (h0 : w.cell? ⟨b, off + 6, none⟩ = some (.int .i64 t0)) (h1 : w.cell? ⟨b, off + 7, none⟩ = some (.int .i64 t1)) (h2 : w.cell? ⟨b, off + 8, none⟩ = some (.int .i64 t2)) (h3 : w.cell? ⟨b, off + 9, none⟩ = some (.int .i64 t3)) :
    (Builtin.copy_ #[77, 77] ty #[.slice (some ⟨g, 7, none⟩) 4 4, .slice (some ⟨b, off + 6, none⟩) 4 cN]).run Tryz.prog w = .ok (goInt 4) (w.setCells g 7 (i64s [t0, t1, t2, t3])) := by
  refine run_copy_cells w 77 77 ty 2 g 7 4 4 _ 4 cN (i64s [t0, t1, t2, t3]) Tryz.underlying77 (by kernel_rfl) rfl ?_ ?_ ?_ (C.i64s_one _)
  · intro j v hv
    rw [addr_add]
    match j, hv with
    | 0, hv => injection hv with e; rw [← e]; exact h0
    | 1, hv => injection hv with e; rw [← e]; exact h1
    | 2, hv => injection hv with e; rw [← e]; exact h2
    | 3, hv => injection hv with e; rw [← e]; exact h3
  · intro j hj; exact h.there (7 + j) (by simp [i64s] at hj; omega)
  · intro j hj; exact h.fz _

end Go.Proofs.YtpoolpckabpnfaaGreat.Ml
