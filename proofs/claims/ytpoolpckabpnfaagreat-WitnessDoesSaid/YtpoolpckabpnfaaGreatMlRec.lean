/-
  A message as a record, and whether a record is that of a message that may be.
-/
import Derived.Test.YtpoolpckabpnfaaGreatMlLim
import Derived.Test.YtpoolpckabpnfaaGreatCBox
import Derived.BigRegion
import Derived.Deep.RegionLaw
import Derived.Deep.RegionHeld3
import Derived.Deep.RegionHeldLaw
namespace Go.Proofs.YtpoolpckabpnfaaGreat.Ml
open Go.RowKit
open C (Row Own i64s strs row_below row_i64 row_str own_nil own_below own_lit own_set RecAt)
set_option linter.unusedVariables false
set_option linter.unusedSimpArgs false
set_option maxRecDepth 20000

/-- a message as a value -/
def Mg.cells (m : Mg) : Array Value := #[.int .i64 m.kind, .int .i64 m.epoch, .int .i64 m.seq, .int .i64 m.n, .int .i64 m.block, .int .i64 m.client, .int .i64 m.e, .int .i64 m.t0, .int .i64 m.t1, .int .i64 m.t2, .int .i64 m.t3, .string m.data, .string m.row]
def msgV (m : Mg) : Value := .agg m.cells

theorem msg_info : (Tryz.prog.info? 37).map (fun i => (i.zero, i.size)) = some (some (msgV nil), 13) := by kernel_rfl

theorem row_block {w w' : World} {a : Option Addr} {n cap : Nat} {vs : List Value} (h : Row w a n cap vs) (hs : w.heap.size ≤ w'.heap.size) (hb : ∀ b off, a = some ⟨b, off, none⟩ → w'.heap[b]? = w.heap[b]?) : Row w' a n cap vs := by
  obtain ⟨h1, h2, h3, h4⟩ := h
  refine ⟨h1, h2, h3, ?_⟩
  rcases h4 with h4 | ⟨b, off, ha, hlt, hc⟩
  · exact .inl h4
  · exact .inr ⟨b, off, ha, by omega, fun i hi => by rw [World.cell?_of_block (w := w) (a := ⟨b, off + i, none⟩) (hb b off ha)]; exact hc i hi⟩

theorem step_append_i64 (w : World) {ops : Array Oper} {o : Oper} {act : Act} {K : Act → World → Prop} {Q : Exit → Act → World → Prop} {E : Prop} (hgd : o.guard = none) (s x : Operand)
    (ho : o.op = .call { callee := .builtin .append, args := #[s, x], argTypes := #[77, 77] })
    (B : Nat) (a : Option Addr) (n cap : Nat) (l : List Int) (hs : act.eval s = .slice a n cap) (hown : Own 2 w B a n cap (i64s l))
    (A : Option Addr) (m c : Nat) (y : List Int) (hx : act.eval x = .slice A m c) (hr : Row w A m c (i64s y)) (hsum : n + m ≤ 1048576) (hB : B ≤ w.heap.size)
    (h : ∀ a' cap' w', Own 2 w' B a' (n + m) cap' (i64s (l ++ y)) → Below B w w' → w.grownBy w' (Value.slice a n cap).ownBlock → K (act.put o.dst (.slice a' (n + m) cap')) w') :
    if Region.wanted o (yielded ops act.tmps) = true then Oper.wp Tryz.prog o act w K Q else E := by
  have hw : Region.wanted o (yielded ops act.tmps) = true := by simp [Region.wanted, hgd]
  rw [if_pos hw]
  obtain ⟨a', cap', w', hrun, h2, h3, h4, _⟩ := C.run_append_i64 w o.type B a n cap l hown A m c y hr hsum hB
  unfold Oper.wp execOp
  simp only [ho, resolve, invoke, builtin, Sem.run_bind, Sem.run_pure, Result.andThen_ok, List.map_toArray, List.map_cons, List.map_nil, hs, hx, hrun]
  exact h a' cap' w' h2 h3 h4

/-- a part of a box that reads as numbers, as texts -/
theorem row4 {w : World} {b off : Nat} {x0 x1 x2 x3 : Int} (hb : b < w.heap.size) (h0 : w.cell? ⟨b, off, none⟩ = some (.int .i64 x0)) (h1 : w.cell? ⟨b, off + 1, none⟩ = some (.int .i64 x1)) (h2 : w.cell? ⟨b, off + 2, none⟩ = some (.int .i64 x2)) (h3 : w.cell? ⟨b, off + 3, none⟩ = some (.int .i64 x3)) :
    Row w (some ⟨b, off, none⟩) 4 4 (i64s [x0, x1, x2, x3]) := by
  refine ⟨rfl, Nat.le_refl _, by simp [maxLen], .inr ⟨b, off, rfl, hb, fun i hi => ?_⟩⟩
  rcases i with _ | _ | _ | _ | i
  · exact h0
  · exact h1
  · exact h2
  · exact h3
  · omega

/-- what is known where a record is being made -/
structure RF (w : World) (m : Mg) (w' : World) : Prop where
  be : Below w.heap.size w w'
  z : w.heap.size + 3 ≤ w'.heap.size
  c0 : w'.cell? ⟨w.heap.size, 0, none⟩ = some (.int .i64 m.kind)
  c7 : w'.cell? ⟨w.heap.size, 7, none⟩ = some (.int .i64 m.t0)
  c8 : w'.cell? ⟨w.heap.size, 7 + 1, none⟩ = some (.int .i64 m.t1)
  c9 : w'.cell? ⟨w.heap.size, 7 + 2, none⟩ = some (.int .i64 m.t2)
  c10 : w'.cell? ⟨w.heap.size, 7 + 3, none⟩ = some (.int .i64 m.t3)
  c11 : w'.cell? ⟨w.heap.size, 11, none⟩ = some (.string m.data)
  c12 : w'.cell? ⟨w.heap.size, 12, none⟩ = some (.string m.row)
  r0 : w'.cell? ⟨w.heap.size + 1, 0, none⟩ = some (.int .i64 0)
  r1 : w'.cell? ⟨w.heap.size + 1, 1, none⟩ = some (.slice none 0 0)
  r2 : w'.cell? ⟨w.heap.size + 1, 2, none⟩ = some (.slice none 0 0)
  f0 : w'.frozen? ⟨w.heap.size + 1, 0, none⟩ = false
  f1 : w'.frozen? ⟨w.heap.size + 1, 1, none⟩ = false
  f2 : w'.frozen? ⟨w.heap.size + 1, 2, none⟩ = false
theorem RF.on {w w' w'' : World} {m : Mg} (h : RF w m w') (hb : Below (w.heap.size + 2) w' w'') : RF w m w'' where
  be := h.be.trans (hb.mono (by omega))
  z := Nat.le_trans h.z hb.size
  c0 := (hb.cell (by simp)).trans h.c0
  c7 := (hb.cell (by simp)).trans h.c7
  c8 := (hb.cell (by simp)).trans h.c8
  c9 := (hb.cell (by simp)).trans h.c9
  c10 := (hb.cell (by simp)).trans h.c10
  c11 := (hb.cell (by simp)).trans h.c11
  c12 := (hb.cell (by simp)).trans h.c12
  r0 := (hb.cell (by simp)).trans h.r0
  r1 := (hb.cell (by simp)).trans h.r1
  r2 := (hb.cell (by simp)).trans h.r2
  f0 := (hb.frozen (by simp)).trans h.f0
  f1 := (hb.frozen (by simp)).trans h.f1
  f2 := (hb.frozen (by simp)).trans h.f2
theorem RF.row {w w' : World} {m : Mg} (h : RF w m w') : Row w' (some ⟨w.heap.size, 7, none⟩) 4 4 (i64s [m.t0, m.t1, m.t2, m.t3]) := row4 (by have := h.z; omega) h.c7 h.c8 h.c9 h.c10
theorem rf_start (w : World) (kind epoch seq n block client e t0 t1 t2 t3 : Int) (data row : ByteArray) :
    RF w ⟨kind, epoch, seq, n, block, client, e, t0, t1, t2, t3, data, row⟩ (((w.alloc (.cells #[.int .i64 kind, .int .i64 epoch, .int .i64 seq, .int .i64 n, .int .i64 block, .int .i64 client, .int .i64 e, .int .i64 t0, .int .i64 t1, .int .i64 t2, .int .i64 t3, .string data, .string row] 37)).alloc (.cells #[.int .i64 0, .slice none 0 0, .slice none 0 0] 80)).alloc (.cells #[.int .i64 epoch, .int .i64 seq, .int .i64 n, .int .i64 block, .int .i64 client, .int .i64 e] 2)) ∧ Own 2 (((w.alloc (.cells #[.int .i64 kind, .int .i64 epoch, .int .i64 seq, .int .i64 n, .int .i64 block, .int .i64 client, .int .i64 e, .int .i64 t0, .int .i64 t1, .int .i64 t2, .int .i64 t3, .string data, .string row] 37)).alloc (.cells #[.int .i64 0, .slice none 0 0, .slice none 0 0] 80)).alloc (.cells #[.int .i64 epoch, .int .i64 seq, .int .i64 n, .int .i64 block, .int .i64 client, .int .i64 e] 2)) (w.heap.size + 2) (some ⟨w.heap.size + 1 + 1, 0, none⟩) 6 6 (i64s [epoch, seq, n, block, client, e]) := by
  refine ⟨?_, ?_⟩
  · constructor
    · exact (((Below.refl _ _).alloc (Nat.le_refl _) _).alloc (by simp) _).alloc (by simp; omega) _
    · simp
    all_goals go_simp
  · have := own_lit 2 ((w.alloc (.cells #[.int .i64 kind, .int .i64 epoch, .int .i64 seq, .int .i64 n, .int .i64 block, .int .i64 client, .int .i64 e, .int .i64 t0, .int .i64 t1, .int .i64 t2, .int .i64 t3, .string data, .string row] 37)).alloc (.cells #[.int .i64 0, .slice none 0 0, .slice none 0 0] 80)) (w.heap.size + 2) (i64s [epoch, seq, n, block, client, e]) (by simp) (by simp [i64s])
    rw [show ((w.alloc (.cells #[.int .i64 kind, .int .i64 epoch, .int .i64 seq, .int .i64 n, .int .i64 block, .int .i64 client, .int .i64 e, .int .i64 t0, .int .i64 t1, .int .i64 t2, .int .i64 t3, .string data, .string row] 37)).alloc (.cells #[.int .i64 0, .slice none 0 0, .slice none 0 0] 80)).heap.size = w.heap.size + 1 + 1 by simp] at this
    exact this

theorem rec_endA {w w4 : World} {m : Mg} {a : Option Addr} {cap : Nat} (F : RF w m w4) (O : Own 2 w4 (w.heap.size + 2) a 10 cap (i64s m.nums)) (v0 v1 v2 : Value) :
    RecAt ((((w4.alloc (.cells #[.string m.data, .string m.row] 9)).setCell ⟨w.heap.size + 1, 0, none⟩ v0).setCell ⟨w.heap.size + 1, 1, none⟩ v1).setCell ⟨w.heap.size + 1, 2, none⟩ v2) m.rc a 10 cap (some ⟨w4.heap.size, 0, none⟩) 2 2 ∧
      Below w.heap.size w ((((w4.alloc (.cells #[.string m.data, .string m.row] 9)).setCell ⟨w.heap.size + 1, 0, none⟩ v0).setCell ⟨w.heap.size + 1, 1, none⟩ v1).setCell ⟨w.heap.size + 1, 2, none⟩ v2) := by
  have hz := F.z
  have OT : Own 9 (w4.alloc (.cells #[.string m.data, .string m.row] 9)) (w.heap.size + 2) (some ⟨w4.heap.size, 0, none⟩) 2 2 (strs m.texts) := own_lit 9 w4 (w.heap.size + 2) (strs m.texts) (by omega) (by simp [strs, Mg.texts])
  have ON : Own 2 (w4.alloc (.cells #[.string m.data, .string m.row] 9)) (w.heap.size + 2) a 10 cap (i64s m.nums) := own_below O ((Below.refl _ _).alloc (Nat.le_refl _) _) (Nat.le_refl _)
  refine ⟨⟨(C.own_row (own_set (own_set (own_set ON v0 ?_) v1 ?_) v2 ?_)).1, (C.own_row (own_set (own_set (own_set OT v0 ?_) v1 ?_) v2 ?_)).1⟩, ?_⟩
  iterate 6 (show w.heap.size + 1 < w.heap.size + 2; omega)
  exact (((F.be.alloc F.be.size _).setCell (by simp) _).setCell (by simp) _).setCell (by simp) _

theorem rec_endB {w wt w4 : World} {m : Mg} {a : Option Addr} {cap : Nat} (F : RF w m wt) (O : Own 2 w4 (w.heap.size + 2) a 10 cap (i64s m.nums)) (g : (wt.alloc (.cells #[.string m.data, .string m.row] 9)).grownBy w4 (Value.slice (some ⟨w.heap.size + 1 + 1, 0, none⟩) 6 6).ownBlock)
    (hb : Below w.heap.size w w4) (v0 v1 v2 : Value) :
    RecAt (((w4.setCell ⟨w.heap.size + 1, 0, none⟩ v0).setCell ⟨w.heap.size + 1, 1, none⟩ v1).setCell ⟨w.heap.size + 1, 2, none⟩ v2) m.rc a 10 cap (some ⟨wt.heap.size, 0, none⟩) 2 2 ∧
      Below w.heap.size w (((w4.setCell ⟨w.heap.size + 1, 0, none⟩ v0).setCell ⟨w.heap.size + 1, 1, none⟩ v1).setCell ⟨w.heap.size + 1, 2, none⟩ v2) := by
  have hz := F.z
  have hsz := g.size
  have RT : Row (wt.alloc (.cells #[.string m.data, .string m.row] 9)) (some ⟨wt.heap.size, 0, none⟩) 2 2 (strs m.texts) := (C.own_row (own_lit 9 wt (w.heap.size + 2) (strs m.texts) (by omega) (by simp [strs, Mg.texts]))).1
  have RT4 : Row w4 (some ⟨wt.heap.size, 0, none⟩) 2 2 (strs m.texts) := row_block RT hsz fun b off hbo => by
    injection hbo with hbo
    injection hbo with hbo _
    subst hbo
    exact g.block _ (by simp) (by simp [Value.ownBlock]; omega)
  refine ⟨⟨(C.own_row (own_set (own_set (own_set O v0 ?_) v1 ?_) v2 ?_)).1, C.row_set (C.row_set (C.row_set RT4 v0 ?_) v1 ?_) v2 ?_⟩, ?_⟩
  iterate 3 (show w.heap.size + 1 < w.heap.size + 2; omega)
  iterate 3 (exact .inr fun b off hbo => by injection hbo with hbo; injection hbo with hbo _; subst hbo; show wt.heap.size ≠ w.heap.size + 1; omega)
  exact ((hb.setCell (by simp) _).setCell (by simp) _).setCell (by simp) _

set_option maxHeartbeats 4000000 in
theorem record_any (w : World) (m : Mg) :
    Calls Tryz.prog 58 #[msgV m] w fun e w' => ∃ aN cN aT cT, e = .returned (.agg #[.int .i64 m.kind, .slice aN 10 cN, .slice aT 2 cT]) ∧ RecAt w' m.rc aN 10 cN aT 2 cT ∧ Below w.heap.size w w' := by
  obtain ⟨kind, epoch, seq, n, block, client, e, t0, t1, t2, t3, data, row⟩ := m
  simp only [msgV, Mg.cells]
  have HF := Lib.hid (rf_start w kind epoch seq n block client e t0 t1 t2 t3 data row)
  go_enter Tryz.func58, Tryz.ntmps58
  go_wp2
  generalize (((w.alloc (.cells #[.int .i64 kind, .int .i64 epoch, .int .i64 seq, .int .i64 n, .int .i64 block, .int .i64 client, .int .i64 e, .int .i64 t0, .int .i64 t1, .int .i64 t2, .int .i64 t3, .string data, .string row] 37)).alloc (.cells #[.int .i64 0, .slice none 0 0, .slice none 0 0] 80)).alloc (.cells #[.int .i64 epoch, .int .i64 seq, .int .i64 n, .int .i64 block, .int .i64 client, .int .i64 e] 2)) = w3 at HF ⊢
  have F3 := Lib.hid HF.out.1
  have O3 := Lib.hid HF.out.2
  have K : Hid (∀ w', Below (w.heap.size + 1) w3 w' → w'.cell? ⟨w.heap.size, 0, none⟩ = some (.int .i64 kind) ∧ w'.cell? ⟨w.heap.size, 11, none⟩ = some (.string data) ∧ w'.cell? ⟨w.heap.size, 12, none⟩ = some (.string row)) := Lib.hid fun w' hb =>
    ⟨(hb.cell (by simp)).trans HF.out.1.c0, (hb.cell (by simp)).trans HF.out.1.c11, (hb.cell (by simp)).trans HF.out.1.c12⟩
  obtain ⟨c0, c11, c12⟩ := K.out w3 (Below.refl _ _)
  have r0 := HF.out.1.r0
  have r1 := HF.out.1.r1
  have r2 := HF.out.1.r2
  have f0 := HF.out.1.f0
  have f1 := HF.out.1.f1
  have f2 := HF.out.1.f2
  clear HF
  go_region_held3 (fun w' => w'.cell? ⟨w.heap.size, 0, none⟩ = some (.int .i64 kind) ∧ w'.cell? ⟨w.heap.size, 11, none⟩ = some (.string data) ∧ w'.cell? ⟨w.heap.size, 12, none⟩ = some (.string row))
    (first
      | (refine K.out _ ?_; (repeat (first | with_reducible exact Below.refl _ _ | with_reducible exact B4.out | refine Below.drew ?_ | refine Below.alloc ?_ (by first | (have := F4.out.z; omega) | (have := F3.out.z; simp <;> omega)) _ | refine Below.setCell ?_ (by simp) _)); done)
      | (go_keep; done))
    (first
      | (refine step_append_i64 _ (by rfl) (.tmp 19) (.tmp 21) (by rfl) (w.heap.size + 2) (some ⟨w.heap.size + 1 + 1, 0, none⟩) 6 6 [epoch, seq, n, block, client, e] (by rfl) (own_below O3.out (C := w3.heap.size) (by repeat (first | with_reducible exact Below.refl _ _ | refine Below.drew ?_ | refine Below.alloc ?_ (by simp; try omega) _)) (Nat.le_refl _)) (some ⟨w.heap.size, 7, none⟩) 4 4 [t0, t1, t2, t3] (by rfl) (row_below F3.out.row (B := w3.heap.size) (by repeat (first | with_reducible exact Below.refl _ _ | refine Below.drew ?_ | refine Below.alloc ?_ (by simp; try omega) _)) (Nat.le_refl _)) (by omega) (by have := F3.out.z; simp; try omega) ?_
         intro a4 cap4 w4 o4 b4 g4
         have B4' : Below (w.heap.size + 2) w3 w4 := Below.trans (by repeat (first | with_reducible exact Below.refl _ _ | refine Below.drew ?_ | refine Below.alloc ?_ (by have := F3.out.z; simp; try omega) _)) b4
         have F4 := Lib.hid (F3.out.on B4')
         have B4 := Lib.hid (B4'.mono (B' := w.heap.size + 1) (by omega))
         have k1 := F4.out.r0
         have k2 := F4.out.r1
         have k3 := F4.out.r2
         have k4 := F4.out.f0
         have k5 := F4.out.f1
         have k6 := F4.out.f2
         have FX := F4.out.on ((Below.refl (w.heap.size + 2) w4).alloc (by have := F4.out.z; omega) (.cells #[.string data, .string row] 9))
         have x1 := FX.r0
         have x2 := FX.r1
         have x3 := FX.r2
         have x4 := FX.f0
         have x5 := FX.f1
         have x6 := FX.f2
         clear FX B4'
         have O4 := Lib.hid o4
         clear o4 b4))
  all_goals
    go_wp2
    first
      | (refine bodyPost_ret (v := .agg #[.int .i64 kind, .slice a4 10 cap4, .slice (some ⟨w4.heap.size, 0, none⟩) 2 2]) (by simp [results, Tryz.results58, go_sem, x1, x2, x3]) rfl ?_
         exact ⟨a4, cap4, _, _, rfl, rec_endA F4.out O4.out _ _ _⟩)
      | (refine bodyPost_ret (v := .agg #[.int .i64 kind, .slice a4 10 cap4, .slice (some ⟨w3.heap.size, 0, none⟩) 2 2]) (by simp [results, Tryz.results58, go_sem, k1, k2, k3]) rfl ?_
         first
           | exact ⟨a4, cap4, _, _, rfl, rec_endB (F3.out.on (Below.drew (Below.refl _ _))) O4.out g4 F4.out.be _ _ _⟩
           | exact ⟨a4, cap4, _, _, rfl, rec_endB F3.out O4.out g4 F4.out.be _ _ _⟩)
end Go.Proofs.YtpoolpckabpnfaaGreat.Ml
