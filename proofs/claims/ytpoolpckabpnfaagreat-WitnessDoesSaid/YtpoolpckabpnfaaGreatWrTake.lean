/-
  The document's own Take, case by case.
-/
import Derived.Test.YtpoolpckabpnfaaGreatJRA
import Derived.Test.YtpoolpckabpnfaaGreatJWC
namespace Go.Proofs.YtpoolpckabpnfaaGreat.Wt
open Go.RowKit
open Ml (Mg may msgV MB)
set_option linter.unusedVariables false
set_option linter.unusedSimpArgs false
set_option maxRecDepth 20000

variable {rB LB n : Nat} {d : M.Dv}

theorem mg_size : (Tryz.prog.info? 37).map (·.size) = some 13 := by kernel_rfl
theorem mg_one (m : Mg) : ∀ v ∈ m.cells.toList, v.oneCell' = true := by
  intro v hv
  simp only [Mg.cells, List.mem_cons, List.not_mem_nil, or_false] at hv
  rcases hv with rfl | rfl | rfl | rfl | rfl | rfl | rfl | rfl | rfl | rfl | rfl | rfl | rfl <;> rfl
theorem mb_range {w : World} {g : Nat} {m : Mg} (h : MB w g m) : w.rangeAt g 0 m.cells.toList := fun j v hv => by
  rw [Nat.zero_add, h.cell, ← Array.getElem?_toList]; exact hv
theorem mb_there {w : World} {g : Nat} {m : Mg} (h : MB w g m) : w.there g 0 13 := fun j hj => by
  rw [Nat.zero_add]
  exact ⟨h.there j hj, h.fz j⟩
section
variable {ops : Array Oper} {rest : List Oper} {o : Oper} {a : Act} {Q : Exit → Act → World → Prop}
theorem wpList_loadM {w : World} (hg : o.guard = none) (x : Operand) (ho : o.op = .load 37 x) (b off : Nat) (hx : a.eval x = .pointer (some ⟨b, off, none⟩)) (y : Mg) (hc : w.rangeAt b off y.cells.toList)
    (h : wpList Tryz.prog ops Q rest (a.put o.dst (msgV y)) w) : wpList Tryz.prog ops Q (o :: rest) a w :=
  wpList_load_mid hg 37 x ho b off hx y.cells.toList _ hc Tryz.underlying37 rfl (by rw [mg_size]; rfl) h
theorem wpList_loadMG {w : World} (hw : Region.wanted o (yielded ops a.tmps) = true) (x : Operand) (ho : o.op = .load 37 x) (b off : Nat) (hx : a.eval x = .pointer (some ⟨b, off, none⟩)) (y : Mg) (hc : w.rangeAt b off y.cells.toList)
    (h : wpList Tryz.prog ops Q rest (a.put o.dst (msgV y)) w) : wpList Tryz.prog ops Q (o :: rest) a w :=
  BigFrame.wpList_want hw fun _ hK => wp_load_mid 37 x ho b off hx y.cells.toList _ hc Tryz.underlying37 rfl (by rw [mg_size]; rfl) (hK _ _ h)
theorem wpList_storeM {w : World} (hg : o.guard = none) (x y : Operand) (ho : o.op = .store 37 x y) (b : Nat) (hx : a.eval x = .pointer (some ⟨b, 0, none⟩)) (z : Mg) (hy : a.eval y = msgV z) (ht : w.there b 0 13)
    (h : ∀ w', w' = w.setCells b 0 z.cells.toList → wpList Tryz.prog ops Q rest (a.put o.dst undef) w') : wpList Tryz.prog ops Q (o :: rest) a w :=
  wpList_store_mid hg 37 x y ho b 0 z.cells hx hy ht (by rw [mg_size]; rfl) (by
    have := all_oneCell_toArray (mg_one z)
    simpa using this) (h _ rfl)
end
theorem mv_of (m : Mg) : msgV m = .agg m.cells := rfl


set_option maxHeartbeats 4000000 in
theorem rtake_neg (w : World) (vB : Nat) (fr : Int) (m : Mg) (hf : fr < 0) :
    Calls Tryz.prog 11 #[.pointer (some ⟨vB, 0, none⟩), .int .i64 fr, msgV m] w fun e w' => e = .returned (.tuple #[msgV Ml.nil, .bool false]) ∧ Below w.heap.size w w' := by
  have HX := Lib.hid (tak_boxes w m)
  have HMy := Lib.hid (Ml.refmay_any ((w.alloc (.cells m.cells 37)).alloc (.cells Ml.nil.cells 37)) m)
  have HZ0 := Lib.hid HX.out.2.1
  have HB0 := Lib.hid HX.out.2.2
  simp only [Mg.cells, Ml.nil] at HZ0 HB0
  simp only [Mg.cells, Ml.nil] at HX HMy
  rw [show msgV m = .agg #[.int .i64 m.kind, .int .i64 m.epoch, .int .i64 m.seq, .int .i64 m.n, .int .i64 m.block, .int .i64 m.client, .int .i64 m.e, .int .i64 m.t0, .int .i64 m.t1, .int .i64 m.t2, .int .i64 m.t3, .string m.data, .string m.row] from rfl]
  go_enter Tryz.func11, Tryz.ntmps11
  go_wp2_with (first
    | (refine wpList_storeM rfl _ _ rfl (w.heap.size + 1) rfl Ml.nil rfl (mb_there HZ0.out) ?_; rintro ws rfl))
  exact ret_msgT (m := Ml.nil) Tryz.results11 rfl rfl rfl (Ml.mb_set HZ0.out Ml.nil) ⟨rfl, Ml.sets_below (o := 0) HB0.out Ml.nil.cells.toList (Nat.le_succ _)⟩


set_option maxHeartbeats 4000000 in
theorem rtake_pos (w : World) (vB : Nat) (fr : Int) (m : Mg) (hf : 1 < fr) :
    Calls Tryz.prog 11 #[.pointer (some ⟨vB, 0, none⟩), .int .i64 fr, msgV m] w fun e w' => e = .returned (.tuple #[msgV Ml.nil, .bool false]) ∧ Below w.heap.size w w' := by
  have HX := Lib.hid (tak_boxes w m)
  have HMy := Lib.hid (Ml.refmay_any ((w.alloc (.cells m.cells 37)).alloc (.cells Ml.nil.cells 37)) m)
  have hf0 : ¬ fr < 0 := by omega
  have HZ0 := Lib.hid HX.out.2.1
  have HB0 := Lib.hid HX.out.2.2
  simp only [Mg.cells, Ml.nil] at HZ0 HB0
  simp only [Mg.cells, Ml.nil] at HX HMy
  rw [show msgV m = .agg #[.int .i64 m.kind, .int .i64 m.epoch, .int .i64 m.seq, .int .i64 m.n, .int .i64 m.block, .int .i64 m.client, .int .i64 m.e, .int .i64 m.t0, .int .i64 m.t1, .int .i64 m.t2, .int .i64 m.t3, .string m.data, .string m.row] from rfl]
  go_enter Tryz.func11, Tryz.ntmps11
  go_wp2_with (first
    | (refine wpList_storeM rfl _ _ rfl (w.heap.size + 1) rfl Ml.nil rfl (mb_there HZ0.out) ?_; rintro ws rfl))
  exact ret_msgT (m := Ml.nil) Tryz.results11 rfl rfl rfl (Ml.mb_set HZ0.out Ml.nil) ⟨rfl, Ml.sets_below (o := 0) HB0.out Ml.nil.cells.toList (Nat.le_succ _)⟩


set_option maxHeartbeats 4000000 in
theorem rtake_may (w : World) (vB : Nat) (fr : Int) (m : Mg) (hf : 0 ≤ fr ∧ fr ≤ 1) (hm : may m = false) :
    Calls Tryz.prog 11 #[.pointer (some ⟨vB, 0, none⟩), .int .i64 fr, msgV m] w fun e w' => e = .returned (.tuple #[msgV Ml.nil, .bool false]) ∧ Below w.heap.size w w' := by
  have HX := Lib.hid (tak_boxes w m)
  have HMy := Lib.hid (Ml.refmay_any ((w.alloc (.cells m.cells 37)).alloc (.cells Ml.nil.cells 37)) m)
  have hf0 : ¬ fr < 0 := by omega
  have hf1 : ¬ 1 < fr := by omega
  rw [hm] at HMy
  clear hm
  simp only [Mg.cells, Ml.nil] at HX HMy
  rw [show msgV m = .agg #[.int .i64 m.kind, .int .i64 m.epoch, .int .i64 m.seq, .int .i64 m.n, .int .i64 m.block, .int .i64 m.client, .int .i64 m.e, .int .i64 m.t0, .int .i64 m.t1, .int .i64 m.t2, .int .i64 m.t3, .string m.data, .string m.row] from rfl]
  go_enter Tryz.func11, Tryz.ntmps11
  go_wp2_with (first
    | (refine wpList_loadMG (by rfl) _ rfl w.heap.size 0 rfl m (mb_range HX.out.1) ?_)
    | (go_at_call 36; with_reducible refine HMy.out.mono ?_; rintro e1 w1 ⟨rfl, hb1⟩
       have HB1 := Lib.hid (HX.out.2.2.trans (hb1.mono HX.out.2.2.size))
       have HM1 := Lib.hid (HX.out.1.below hb1 HX.out.1.lt)
       have HZ1 := Lib.hid (HX.out.2.1.below hb1 HX.out.2.1.lt)
       have c0 := HM1.out.cell 0
       simp only [Mg.cells, List.getElem?_toArray, List.getElem?_cons_zero, List.getElem?_cons_succ] at c0
       clear hb1)
    | (refine wpList_storeM rfl _ _ rfl (w.heap.size + 1) rfl Ml.nil rfl (mb_there HZ1.out) ?_; rintro ws rfl))
  exact ret_msgT (m := Ml.nil) Tryz.results11 rfl rfl rfl (Ml.mb_set HZ1.out Ml.nil) ⟨rfl, Ml.sets_below (o := 0) HB1.out Ml.nil.cells.toList (Nat.le_succ _)⟩


set_option maxHeartbeats 4000000 in
theorem rtake_kind (w : World) (vB : Nat) (fr : Int) (m : Mg) (hf : 0 ≤ fr ∧ fr ≤ 1) (hm : may m = true) (hk : kindOk m.kind = false) :
    Calls Tryz.prog 11 #[.pointer (some ⟨vB, 0, none⟩), .int .i64 fr, msgV m] w fun e w' => e = .returned (.tuple #[msgV Ml.nil, .bool false]) ∧ Below w.heap.size w w' := by
  have HX := Lib.hid (tak_boxes w m)
  have HMy := Lib.hid (Ml.refmay_any ((w.alloc (.cells m.cells 37)).alloc (.cells Ml.nil.cells 37)) m)
  have hf0 : ¬ fr < 0 := by omega
  have hf1 : ¬ 1 < fr := by omega
  rw [hm] at HMy
  clear hm
  have hk0 : (m.kind == 1) = false ∧ (m.kind == 3) = false ∧ (m.kind == 4) = false := by simpa [kindOk] using hk
  obtain ⟨hk1, hk3, hk4⟩ := hk0
  clear hk
  simp only [Mg.cells, Ml.nil] at HX HMy
  rw [show msgV m = .agg #[.int .i64 m.kind, .int .i64 m.epoch, .int .i64 m.seq, .int .i64 m.n, .int .i64 m.block, .int .i64 m.client, .int .i64 m.e, .int .i64 m.t0, .int .i64 m.t1, .int .i64 m.t2, .int .i64 m.t3, .string m.data, .string m.row] from rfl]
  go_enter Tryz.func11, Tryz.ntmps11
  go_wp2_with (first
    | (refine wpList_loadMG (by rfl) _ rfl w.heap.size 0 rfl m (mb_range HX.out.1) ?_)
    | (go_at_call 36; with_reducible refine HMy.out.mono ?_; rintro e1 w1 ⟨rfl, hb1⟩
       have HB1 := Lib.hid (HX.out.2.2.trans (hb1.mono HX.out.2.2.size))
       have HM1 := Lib.hid (HX.out.1.below hb1 HX.out.1.lt)
       have HZ1 := Lib.hid (HX.out.2.1.below hb1 HX.out.2.1.lt)
       have c0 := HM1.out.cell 0
       simp only [Mg.cells, List.getElem?_toArray, List.getElem?_cons_zero, List.getElem?_cons_succ] at c0
       clear hb1)
    | (refine wpList_storeM rfl _ _ rfl (w.heap.size + 1) rfl Ml.nil rfl (mb_there HZ1.out) ?_; rintro ws rfl))
  exact ret_msgT (m := Ml.nil) Tryz.results11 rfl rfl rfl (Ml.mb_set HZ1.out Ml.nil) ⟨rfl, Ml.sets_below (o := 0) HB1.out Ml.nil.cells.toList (Nat.le_succ _)⟩


set_option maxHeartbeats 4000000 in
theorem rtake_no1 (w : World) {vB kB a b : Nat} {c : M.Cl} {L W : Int} (h : RW w rB LB n d vB kB a b c L W) (fr : Int) (hf : 0 ≤ fr ∧ fr ≤ 1) (m : Mg) (hk : m.kind = 1) (hm : may m = true) {E : Int} {D : M.Dv} {C2 : M.Cl} {L2 : Int}
    (hdo : ∀ w' : World, RW w' rB LB n d vB kB a b c L W → Calls Tryz.prog 37 #[.pointer (some ⟨vB, 0, none⟩), .int .i64 fr, msgV m] w' fun e w'' => e = .returned (.int .i64 E) ∧ RW w'' rB LB n D vB kB a b C2 L2 W ∧ But (theirs rB LB kB vB) w' w'') (hE : E = 30) :
    Calls Tryz.prog 11 #[.pointer (some ⟨vB, 0, none⟩), .int .i64 fr, msgV m] w fun e w' => e = .returned (.tuple #[msgV Ml.nil, .bool false]) ∧ RW w' rB LB n D vB kB a b C2 L2 W ∧ But (theirs rB LB kB vB) w w' := by
  have HX := Lib.hid (tak_boxes w m)
  have HMy := Lib.hid (Ml.refmay_any ((w.alloc (.cells m.cells 37)).alloc (.cells Ml.nil.cells 37)) m)
  have HS := Lib.hid h
  have HDo := Lib.hid hdo
  have HNt : Hid (∀ g, w.heap.size ≤ g → g ∉ theirs rB LB kB vB) := Lib.hid fun g hg => RX.not_mem h hg
  have HK1 := Lib.hid hk
  subst hE
  clear h hdo hk
  have hf0 : ¬ fr < 0 := by omega
  have hf1 : ¬ 1 < fr := by omega
  rw [hm] at HMy
  clear hm
  simp only [Mg.cells, Ml.nil] at HX HMy
  rw [show msgV m = .agg #[.int .i64 m.kind, .int .i64 m.epoch, .int .i64 m.seq, .int .i64 m.n, .int .i64 m.block, .int .i64 m.client, .int .i64 m.e, .int .i64 m.t0, .int .i64 m.t1, .int .i64 m.t2, .int .i64 m.t3, .string m.data, .string m.row] from rfl]
  go_enter Tryz.func11, Tryz.ntmps11
  go_wp2_with (first
    | (refine wpList_loadMG (by rfl) _ rfl w.heap.size 0 rfl m (mb_range HX.out.1) ?_)
    | (go_at_call 36; with_reducible refine HMy.out.mono ?_; rintro e1 w1 ⟨rfl, hb1⟩
       have HB1 := Lib.hid (HX.out.2.2.trans (hb1.mono HX.out.2.2.size))
       have HM1 := Lib.hid (HX.out.1.below hb1 HX.out.1.lt)
       have HZ1 := Lib.hid (HX.out.2.1.below hb1 HX.out.2.1.lt)
       have c0 := HM1.out.cell 0
       simp only [Mg.cells, List.getElem?_toArray, List.getElem?_cons_zero, List.getElem?_cons_succ] at c0
       rw [HK1.out] at c0
       have S1 : Hid (RW w1 rB LB n d vB kB a b c L W) := Lib.hid (RX.below HS.out HB1.out)
       clear hb1)
    | (refine wpList_loadM rfl _ rfl w.heap.size 0 rfl m (mb_range HM1.out) ?_)
    | (go_at_call 37; with_reducible refine (HDo.out _ S1.out).mono ?_; rintro e2 w2 ⟨rfl, hs2, hb2⟩
       have S2 := Lib.hid hs2
       have HB2 : Hid (But (theirs rB LB kB vB) w w2) := Lib.hid (((But.of_below HB1.out).mono (by simp)).trans hb2)
       have HM2 := Lib.hid (mb_but HM1.out hb2 (HNt.out _ (Nat.le_refl _)))
       have HZ2 := Lib.hid (mb_but HZ1.out hb2 (HNt.out _ (Nat.le_succ _)))
       clear hs2 hb2)
    | (refine wpList_storeM rfl _ _ rfl (w.heap.size + 1) rfl Ml.nil rfl (mb_there HZ2.out) ?_; rintro ws rfl))
  exact ret_msgT (m := Ml.nil) (v := .bool false) Tryz.results11 rfl rfl rfl (Ml.mb_set HZ2.out _) ⟨rfl, RX.but S2.out ((But.refl [w.heap.size + 1] _).sets (w.heap.size + 1) 0 _ (.inl (by simp))) (fun y hy => by simp only [List.mem_cons, List.not_mem_nil, or_false] at hy; subst hy; exact HNt.out _ (Nat.le_succ _)), HB2.out.sets (w.heap.size + 1) 0 _ (.inr (Nat.le_succ _))⟩


set_option maxHeartbeats 4000000 in
theorem rtake_yes1 (w : World) {vB kB a b : Nat} {c : M.Cl} {L W : Int} (h : RW w rB LB n d vB kB a b c L W) (fr : Int) (hf : 0 ≤ fr ∧ fr ≤ 1) (m : Mg) (hk : m.kind = 1) (hm : may m = true) {E : Int} {D : M.Dv} {C2 : M.Cl} {L2 : Int}
    (hdo : ∀ w' : World, RW w' rB LB n d vB kB a b c L W → Calls Tryz.prog 37 #[.pointer (some ⟨vB, 0, none⟩), .int .i64 fr, msgV m] w' fun e w'' => e = .returned (.int .i64 E) ∧ RW w'' rB LB n D vB kB a b C2 L2 W ∧ But (theirs rB LB kB vB) w' w'') (hE : E ≠ 30) :
    Calls Tryz.prog 11 #[.pointer (some ⟨vB, 0, none⟩), .int .i64 fr, msgV m] w fun e w' => e = .returned (.tuple #[msgV (ansA (fx C2.text) m E), .bool true]) ∧ RW w' rB LB n D vB kB a b C2 L2 W ∧ But (theirs rB LB kB vB) w w' := by
  have HX := Lib.hid (tak_boxes w m)
  have HMy := Lib.hid (Ml.refmay_any ((w.alloc (.cells m.cells 37)).alloc (.cells Ml.nil.cells 37)) m)
  have HS := Lib.hid h
  have HDo := Lib.hid hdo
  have HNt : Hid (∀ g, w.heap.size ≤ g → g ∉ theirs rB LB kB vB) := Lib.hid fun g hg => RX.not_mem h hg
  have HK1 := Lib.hid hk
  have hE2 : (E == 30) = false := by rw [beq_eq_false_iff_ne]; exact hE
  rw [show ansA (fx C2.text) m E = ⟨2, (fx C2.text).ep, (fx C2.text).ma, m.n, -1, (fx C2.text).ho, E, 0, 0, 0, 0, ⟨#[]⟩, ⟨#[]⟩⟩ by unfold ansA ansK; rw [hk]; rfl]
  clear hE
  clear h hdo hk
  have hf0 : ¬ fr < 0 := by omega
  have hf1 : ¬ 1 < fr := by omega
  rw [hm] at HMy
  clear hm
  simp only [Mg.cells, Ml.nil] at HX HMy
  rw [show msgV m = .agg #[.int .i64 m.kind, .int .i64 m.epoch, .int .i64 m.seq, .int .i64 m.n, .int .i64 m.block, .int .i64 m.client, .int .i64 m.e, .int .i64 m.t0, .int .i64 m.t1, .int .i64 m.t2, .int .i64 m.t3, .string m.data, .string m.row] from rfl]
  go_enter Tryz.func11, Tryz.ntmps11
  go_upto_region 21 with (first
    | (refine wpList_loadMG (by rfl) _ rfl w.heap.size 0 rfl m (mb_range HX.out.1) ?_)
    | (go_at_call 36; with_reducible refine HMy.out.mono ?_; rintro e1 w1 ⟨rfl, hb1⟩
       have HB1 := Lib.hid (HX.out.2.2.trans (hb1.mono HX.out.2.2.size))
       have HM1 := Lib.hid (HX.out.1.below hb1 HX.out.1.lt)
       have HZ1 := Lib.hid (HX.out.2.1.below hb1 HX.out.2.1.lt)
       have c0 := HM1.out.cell 0
       simp only [Mg.cells, List.getElem?_toArray, List.getElem?_cons_zero, List.getElem?_cons_succ] at c0
       rw [HK1.out] at c0
       have S1 : Hid (RW w1 rB LB n d vB kB a b c L W) := Lib.hid (RX.below HS.out HB1.out)
       clear hb1)
    | (refine wpList_loadM rfl _ rfl w.heap.size 0 rfl m (mb_range HM1.out) ?_)
    | (go_at_call 37; with_reducible refine (HDo.out _ S1.out).mono ?_; rintro e2 w2 ⟨rfl, hs2, hb2⟩
       have S2 := Lib.hid hs2
       have HB2 : Hid (But (theirs rB LB kB vB) w w2) := Lib.hid (((But.of_below HB1.out).mono (by simp)).trans hb2)
       have HM2 := Lib.hid (mb_but HM1.out hb2 (HNt.out _ (Nat.le_refl _)))
       have HZ2 := Lib.hid (mb_but HZ1.out hb2 (HNt.out _ (Nat.le_succ _)))
       clear hs2 hb2))
  have q1 := RX.q1 S2.out
  have q2 := RX.q2 S2.out
  have q3 := RX.q3 S2.out
  have c3 := HM2.out.cell 3
  simp only [Mg.cells, List.getElem?_toArray, List.getElem?_cons_zero, List.getElem?_cons_succ] at c3
  clear c0
  go_still_tail 17, (by kernel_rfl)
  change wpList _ _ _ _ _ w2.drew
  have S3 := Lib.hid (RX.below S2.out (Below.refl w2.heap.size w2).drew)
  have HB3 := Lib.hid (HB2.out.trans ((But.of_below (Below.refl w2.heap.size w2).drew).mono (by simp)))
  have HZ3 := Lib.hid (HZ2.out.below (Below.refl w2.heap.size w2).drew HZ2.out.lt)
  clear S2 HB2 HZ2 HM2 q1 q2 q3 c3
  generalize w2.drew = w3 at *
  go_wp2_with (first
    | (refine wpList_storeM rfl _ _ rfl (w.heap.size + 1) rfl ⟨2, (fx C2.text).ep, (fx C2.text).ma, m.n, -1, (fx C2.text).ho, E, 0, 0, 0, 0, ⟨#[]⟩, ⟨#[]⟩⟩ rfl (mb_there HZ3.out) ?_; rintro ws rfl))
  exact ret_msgT (m := _) (v := .bool true) Tryz.results11 rfl rfl rfl (Ml.mb_set HZ3.out _) ⟨rfl, RX.but S3.out ((But.refl [w.heap.size + 1] _).sets (w.heap.size + 1) 0 _ (.inl (by simp))) (fun y hy => by simp only [List.mem_cons, List.not_mem_nil, or_false] at hy; subst hy; exact HNt.out _ (Nat.le_succ _)), HB3.out.sets (w.heap.size + 1) 0 _ (.inr (Nat.le_succ _))⟩


set_option maxHeartbeats 4000000 in
theorem rtake_no3 (w : World) {vB kB a b : Nat} {c : M.Cl} {L W : Int} (h : RW w rB LB n d vB kB a b c L W) (fr : Int) (hf : 0 ≤ fr ∧ fr ≤ 1) (m : Mg) (hk : m.kind = 3) (hm : may m = true) {E : Int} {D : M.Dv} {C2 : M.Cl} {L2 : Int}
    (hdo : ∀ w' : World, RW w' rB LB n d vB kB a b c L W → Calls Tryz.prog 38 #[.pointer (some ⟨vB, 0, none⟩), .int .i64 fr, msgV m] w' fun e w'' => e = .returned (.int .i64 E) ∧ RW w'' rB LB n D vB kB a b C2 L2 W ∧ But (theirs rB LB kB vB) w' w'') (hE : E = 30) :
    Calls Tryz.prog 11 #[.pointer (some ⟨vB, 0, none⟩), .int .i64 fr, msgV m] w fun e w' => e = .returned (.tuple #[msgV Ml.nil, .bool false]) ∧ RW w' rB LB n D vB kB a b C2 L2 W ∧ But (theirs rB LB kB vB) w w' := by
  have HX := Lib.hid (tak_boxes w m)
  have HMy := Lib.hid (Ml.refmay_any ((w.alloc (.cells m.cells 37)).alloc (.cells Ml.nil.cells 37)) m)
  have HS := Lib.hid h
  have HDo := Lib.hid hdo
  have HNt : Hid (∀ g, w.heap.size ≤ g → g ∉ theirs rB LB kB vB) := Lib.hid fun g hg => RX.not_mem h hg
  have HK1 := Lib.hid hk
  subst hE
  clear h hdo hk
  have hf0 : ¬ fr < 0 := by omega
  have hf1 : ¬ 1 < fr := by omega
  rw [hm] at HMy
  clear hm
  simp only [Mg.cells, Ml.nil] at HX HMy
  rw [show msgV m = .agg #[.int .i64 m.kind, .int .i64 m.epoch, .int .i64 m.seq, .int .i64 m.n, .int .i64 m.block, .int .i64 m.client, .int .i64 m.e, .int .i64 m.t0, .int .i64 m.t1, .int .i64 m.t2, .int .i64 m.t3, .string m.data, .string m.row] from rfl]
  go_enter Tryz.func11, Tryz.ntmps11
  go_wp2_with (first
    | (refine wpList_loadMG (by rfl) _ rfl w.heap.size 0 rfl m (mb_range HX.out.1) ?_)
    | (go_at_call 36; with_reducible refine HMy.out.mono ?_; rintro e1 w1 ⟨rfl, hb1⟩
       have HB1 := Lib.hid (HX.out.2.2.trans (hb1.mono HX.out.2.2.size))
       have HM1 := Lib.hid (HX.out.1.below hb1 HX.out.1.lt)
       have HZ1 := Lib.hid (HX.out.2.1.below hb1 HX.out.2.1.lt)
       have c0 := HM1.out.cell 0
       simp only [Mg.cells, List.getElem?_toArray, List.getElem?_cons_zero, List.getElem?_cons_succ] at c0
       rw [HK1.out] at c0
       have S1 : Hid (RW w1 rB LB n d vB kB a b c L W) := Lib.hid (RX.below HS.out HB1.out)
       clear hb1)
    | (refine wpList_loadM rfl _ rfl w.heap.size 0 rfl m (mb_range HM1.out) ?_)
    | (go_at_call 38; with_reducible refine (HDo.out _ S1.out).mono ?_; rintro e2 w2 ⟨rfl, hs2, hb2⟩
       have S2 := Lib.hid hs2
       have HB2 : Hid (But (theirs rB LB kB vB) w w2) := Lib.hid (((But.of_below HB1.out).mono (by simp)).trans hb2)
       have HM2 := Lib.hid (mb_but HM1.out hb2 (HNt.out _ (Nat.le_refl _)))
       have HZ2 := Lib.hid (mb_but HZ1.out hb2 (HNt.out _ (Nat.le_succ _)))
       clear hs2 hb2)
    | (refine wpList_storeM rfl _ _ rfl (w.heap.size + 1) rfl Ml.nil rfl (mb_there HZ2.out) ?_; rintro ws rfl))
  exact ret_msgT (m := Ml.nil) (v := .bool false) Tryz.results11 rfl rfl rfl (Ml.mb_set HZ2.out _) ⟨rfl, RX.but S2.out ((But.refl [w.heap.size + 1] _).sets (w.heap.size + 1) 0 _ (.inl (by simp))) (fun y hy => by simp only [List.mem_cons, List.not_mem_nil, or_false] at hy; subst hy; exact HNt.out _ (Nat.le_succ _)), HB2.out.sets (w.heap.size + 1) 0 _ (.inr (Nat.le_succ _))⟩


set_option maxHeartbeats 4000000 in
theorem rtake_yes3 (w : World) {vB kB a b : Nat} {c : M.Cl} {L W : Int} (h : RW w rB LB n d vB kB a b c L W) (fr : Int) (hf : 0 ≤ fr ∧ fr ≤ 1) (m : Mg) (hk : m.kind = 3) (hm : may m = true) {E : Int} {D : M.Dv} {C2 : M.Cl} {L2 : Int}
    (hdo : ∀ w' : World, RW w' rB LB n d vB kB a b c L W → Calls Tryz.prog 38 #[.pointer (some ⟨vB, 0, none⟩), .int .i64 fr, msgV m] w' fun e w'' => e = .returned (.int .i64 E) ∧ RW w'' rB LB n D vB kB a b C2 L2 W ∧ But (theirs rB LB kB vB) w' w'') (hE : E ≠ 30) :
    Calls Tryz.prog 11 #[.pointer (some ⟨vB, 0, none⟩), .int .i64 fr, msgV m] w fun e w' => e = .returned (.tuple #[msgV (ansA (fx C2.text) m E), .bool true]) ∧ RW w' rB LB n D vB kB a b C2 L2 W ∧ But (theirs rB LB kB vB) w w' := by
  have HX := Lib.hid (tak_boxes w m)
  have HMy := Lib.hid (Ml.refmay_any ((w.alloc (.cells m.cells 37)).alloc (.cells Ml.nil.cells 37)) m)
  have HS := Lib.hid h
  have HDo := Lib.hid hdo
  have HNt : Hid (∀ g, w.heap.size ≤ g → g ∉ theirs rB LB kB vB) := Lib.hid fun g hg => RX.not_mem h hg
  have HK1 := Lib.hid hk
  have hE2 : (E == 30) = false := by rw [beq_eq_false_iff_ne]; exact hE
  rw [show ansA (fx C2.text) m E = ⟨3, (fx C2.text).ep, (fx C2.text).ma, m.n, -1, (fx C2.text).ho, E, 0, 0, 0, 0, ⟨#[]⟩, ⟨#[]⟩⟩ by unfold ansA ansK; rw [hk]; rfl]
  clear hE
  clear h hdo hk
  have hf0 : ¬ fr < 0 := by omega
  have hf1 : ¬ 1 < fr := by omega
  rw [hm] at HMy
  clear hm
  simp only [Mg.cells, Ml.nil] at HX HMy
  rw [show msgV m = .agg #[.int .i64 m.kind, .int .i64 m.epoch, .int .i64 m.seq, .int .i64 m.n, .int .i64 m.block, .int .i64 m.client, .int .i64 m.e, .int .i64 m.t0, .int .i64 m.t1, .int .i64 m.t2, .int .i64 m.t3, .string m.data, .string m.row] from rfl]
  go_enter Tryz.func11, Tryz.ntmps11
  go_upto_region 21 with (first
    | (refine wpList_loadMG (by rfl) _ rfl w.heap.size 0 rfl m (mb_range HX.out.1) ?_)
    | (go_at_call 36; with_reducible refine HMy.out.mono ?_; rintro e1 w1 ⟨rfl, hb1⟩
       have HB1 := Lib.hid (HX.out.2.2.trans (hb1.mono HX.out.2.2.size))
       have HM1 := Lib.hid (HX.out.1.below hb1 HX.out.1.lt)
       have HZ1 := Lib.hid (HX.out.2.1.below hb1 HX.out.2.1.lt)
       have c0 := HM1.out.cell 0
       simp only [Mg.cells, List.getElem?_toArray, List.getElem?_cons_zero, List.getElem?_cons_succ] at c0
       rw [HK1.out] at c0
       have S1 : Hid (RW w1 rB LB n d vB kB a b c L W) := Lib.hid (RX.below HS.out HB1.out)
       clear hb1)
    | (refine wpList_loadM rfl _ rfl w.heap.size 0 rfl m (mb_range HM1.out) ?_)
    | (go_at_call 38; with_reducible refine (HDo.out _ S1.out).mono ?_; rintro e2 w2 ⟨rfl, hs2, hb2⟩
       have S2 := Lib.hid hs2
       have HB2 : Hid (But (theirs rB LB kB vB) w w2) := Lib.hid (((But.of_below HB1.out).mono (by simp)).trans hb2)
       have HM2 := Lib.hid (mb_but HM1.out hb2 (HNt.out _ (Nat.le_refl _)))
       have HZ2 := Lib.hid (mb_but HZ1.out hb2 (HNt.out _ (Nat.le_succ _)))
       clear hs2 hb2))
  have q1 := RX.q1 S2.out
  have q2 := RX.q2 S2.out
  have q3 := RX.q3 S2.out
  have c3 := HM2.out.cell 3
  simp only [Mg.cells, List.getElem?_toArray, List.getElem?_cons_zero, List.getElem?_cons_succ] at c3
  clear c0
  go_still_tail 17, (by kernel_rfl)
  change wpList _ _ _ _ _ w2.drew
  have S3 := Lib.hid (RX.below S2.out (Below.refl w2.heap.size w2).drew)
  have HB3 := Lib.hid (HB2.out.trans ((But.of_below (Below.refl w2.heap.size w2).drew).mono (by simp)))
  have HZ3 := Lib.hid (HZ2.out.below (Below.refl w2.heap.size w2).drew HZ2.out.lt)
  clear S2 HB2 HZ2 HM2 q1 q2 q3 c3
  generalize w2.drew = w3 at *
  go_wp2_with (first
    | (refine wpList_storeM rfl _ _ rfl (w.heap.size + 1) rfl ⟨3, (fx C2.text).ep, (fx C2.text).ma, m.n, -1, (fx C2.text).ho, E, 0, 0, 0, 0, ⟨#[]⟩, ⟨#[]⟩⟩ rfl (mb_there HZ3.out) ?_; rintro ws rfl))
  exact ret_msgT (m := _) (v := .bool true) Tryz.results11 rfl rfl rfl (Ml.mb_set HZ3.out _) ⟨rfl, RX.but S3.out ((But.refl [w.heap.size + 1] _).sets (w.heap.size + 1) 0 _ (.inl (by simp))) (fun y hy => by simp only [List.mem_cons, List.not_mem_nil, or_false] at hy; subst hy; exact HNt.out _ (Nat.le_succ _)), HB3.out.sets (w.heap.size + 1) 0 _ (.inr (Nat.le_succ _))⟩


set_option maxHeartbeats 4000000 in
theorem rtake_no4A (w : World) {vB kB a b : Nat} {c : M.Cl} {L W : Int} (h : RW w rB LB n d vB kB a b c L W) (fr : Int) (hf : 0 ≤ fr ∧ fr ≤ 1) (m : Mg) (hk : m.kind = 4) (hm : may m = true) {E : Int} {D : M.Dv} {C2 : M.Cl} {L2 : Int}
    (hdo : ∀ w' : World, RW w' rB LB n d vB kB a b c L W → Calls Tryz.prog 40 #[.pointer (some ⟨vB, 0, none⟩), .int .i64 (fx c.text).ep, .int .i64 (-1), .int .i64 (2 - fr), .int .i64 (fx c.text).ch] w' fun e w'' => e = .returned (.int .i64 E) ∧ RW w'' rB LB n D vB kB a b C2 L2 W ∧ But (theirs rB LB kB vB) w' w'') (hE : E = 30) (h3 : (fx c.text).ma = 3) :
    Calls Tryz.prog 11 #[.pointer (some ⟨vB, 0, none⟩), .int .i64 fr, msgV m] w fun e w' => e = .returned (.tuple #[msgV Ml.nil, .bool false]) ∧ RW w' rB LB n D vB kB a b C2 L2 W ∧ But (theirs rB LB kB vB) w w' := by
  have HX := Lib.hid (tak_boxes w m)
  have HMy := Lib.hid (Ml.refmay_any ((w.alloc (.cells m.cells 37)).alloc (.cells Ml.nil.cells 37)) m)
  have HS := Lib.hid h
  have HDo := Lib.hid hdo
  have HNt : Hid (∀ g, w.heap.size ≤ g → g ∉ theirs rB LB kB vB) := Lib.hid fun g hg => RX.not_mem h hg
  have HK1 := Lib.hid hk
  have hw1 : wrap64 (1 - fr) = 1 - fr := by unfold wrap64; omega
  have hw2 : wrap64 (2 - fr) = 2 - fr := by unfold wrap64; omega
  have h3b : ((fx c.text).ma == 3) = true := by simpa using h3
  clear h3
  subst hE
  clear h hdo hk
  have hf0 : ¬ fr < 0 := by omega
  have hf1 : ¬ 1 < fr := by omega
  rw [hm] at HMy
  clear hm
  simp only [Mg.cells, Ml.nil] at HX HMy
  rw [show msgV m = .agg #[.int .i64 m.kind, .int .i64 m.epoch, .int .i64 m.seq, .int .i64 m.n, .int .i64 m.block, .int .i64 m.client, .int .i64 m.e, .int .i64 m.t0, .int .i64 m.t1, .int .i64 m.t2, .int .i64 m.t3, .string m.data, .string m.row] from rfl]
  go_enter Tryz.func11, Tryz.ntmps11
  go_upto_region 18 with (first
    | (refine wpList_loadMG (by rfl) _ rfl w.heap.size 0 rfl m (mb_range HX.out.1) ?_)
    | (go_at_call 36; with_reducible refine HMy.out.mono ?_; rintro e1 w1 ⟨rfl, hb1⟩
       have HB1 := Lib.hid (HX.out.2.2.trans (hb1.mono HX.out.2.2.size))
       have HM1 := Lib.hid (HX.out.1.below hb1 HX.out.1.lt)
       have HZ1 := Lib.hid (HX.out.2.1.below hb1 HX.out.2.1.lt)
       have c0 := HM1.out.cell 0
       simp only [Mg.cells, List.getElem?_toArray, List.getElem?_cons_zero, List.getElem?_cons_succ] at c0
       rw [HK1.out] at c0
       have S1 : Hid (RW w1 rB LB n d vB kB a b c L W) := Lib.hid (RX.below HS.out HB1.out)
       have q1 := RX.q1 S1.out
       have q3 := RX.q3 S1.out
       have q4 := RX.q4 S1.out
       clear hb1))
  go_still_tail 10, (by kernel_rfl)
  change wpList _ _ _ _ _ w1.drew
  have S0 : Hid (RW w1.drew rB LB n d vB kB a b c L W) := Lib.hid (RX.below S1.out (Below.refl w1.heap.size w1).drew)
  have HB0 : Hid (But (theirs rB LB kB vB) w w1.drew) := Lib.hid ((But.of_below (HB1.out.drew)).mono (by simp))
  have HM0 := Lib.hid (HM1.out.below (Below.refl w1.heap.size w1).drew HM1.out.lt)
  have HZ0 := Lib.hid (HZ1.out.below (Below.refl w1.heap.size w1).drew HZ1.out.lt)
  clear S1 HB1 HM1 HZ1 q1 q3 q4 c0
  generalize w1.drew = w0 at *
  go_wp2_with (first
    | (go_at_call 40; with_reducible refine (HDo.out _ S0.out).mono ?_; rintro e2 w2 ⟨rfl, hs2, hb2⟩
       have S2 := Lib.hid hs2
       have HB2 : Hid (But (theirs rB LB kB vB) w w2) := Lib.hid (HB0.out.trans hb2)
       have HM2 := Lib.hid (mb_but HM0.out hb2 (HNt.out _ (Nat.le_refl _)))
       have HZ2 := Lib.hid (mb_but HZ0.out hb2 (HNt.out _ (Nat.le_succ _)))
       clear hs2 hb2)
    | (refine wpList_storeM rfl _ _ rfl (w.heap.size + 1) rfl Ml.nil rfl (mb_there HZ2.out) ?_; rintro ws rfl))
  exact ret_msgT (m := Ml.nil) (v := .bool false) Tryz.results11 rfl rfl rfl (Ml.mb_set HZ2.out _) ⟨rfl, RX.but S2.out ((But.refl [w.heap.size + 1] _).sets (w.heap.size + 1) 0 _ (.inl (by simp))) (fun y hy => by simp only [List.mem_cons, List.not_mem_nil, or_false] at hy; subst hy; exact HNt.out _ (Nat.le_succ _)), HB2.out.sets (w.heap.size + 1) 0 _ (.inr (Nat.le_succ _))⟩


set_option maxHeartbeats 4000000 in
theorem rtake_yes4A (w : World) {vB kB a b : Nat} {c : M.Cl} {L W : Int} (h : RW w rB LB n d vB kB a b c L W) (fr : Int) (hf : 0 ≤ fr ∧ fr ≤ 1) (m : Mg) (hk : m.kind = 4) (hm : may m = true) {E : Int} {D : M.Dv} {C2 : M.Cl} {L2 : Int}
    (hdo : ∀ w' : World, RW w' rB LB n d vB kB a b c L W → Calls Tryz.prog 40 #[.pointer (some ⟨vB, 0, none⟩), .int .i64 (fx c.text).ep, .int .i64 (-1), .int .i64 (2 - fr), .int .i64 (fx c.text).ch] w' fun e w'' => e = .returned (.int .i64 E) ∧ RW w'' rB LB n D vB kB a b C2 L2 W ∧ But (theirs rB LB kB vB) w' w'') (hE : E ≠ 30) (h3 : (fx c.text).ma = 3) :
    Calls Tryz.prog 11 #[.pointer (some ⟨vB, 0, none⟩), .int .i64 fr, msgV m] w fun e w' => e = .returned (.tuple #[msgV (ansA (fx C2.text) m E), .bool true]) ∧ RW w' rB LB n D vB kB a b C2 L2 W ∧ But (theirs rB LB kB vB) w w' := by
  have HX := Lib.hid (tak_boxes w m)
  have HMy := Lib.hid (Ml.refmay_any ((w.alloc (.cells m.cells 37)).alloc (.cells Ml.nil.cells 37)) m)
  have HS := Lib.hid h
  have HDo := Lib.hid hdo
  have HNt : Hid (∀ g, w.heap.size ≤ g → g ∉ theirs rB LB kB vB) := Lib.hid fun g hg => RX.not_mem h hg
  have HK1 := Lib.hid hk
  have hw1 : wrap64 (1 - fr) = 1 - fr := by unfold wrap64; omega
  have hw2 : wrap64 (2 - fr) = 2 - fr := by unfold wrap64; omega
  have h3b : ((fx c.text).ma == 3) = true := by simpa using h3
  clear h3
  have hE2 : (E == 30) = false := by rw [beq_eq_false_iff_ne]; exact hE
  rw [show ansA (fx C2.text) m E = ⟨4, (fx C2.text).ep, (fx C2.text).ma, m.n, -1, (fx C2.text).ho, E, 0, 0, 0, 0, ⟨#[]⟩, ⟨#[]⟩⟩ by unfold ansA ansK; rw [hk]; rfl]
  clear hE
  clear h hdo hk
  have hf0 : ¬ fr < 0 := by omega
  have hf1 : ¬ 1 < fr := by omega
  rw [hm] at HMy
  clear hm
  simp only [Mg.cells, Ml.nil] at HX HMy
  rw [show msgV m = .agg #[.int .i64 m.kind, .int .i64 m.epoch, .int .i64 m.seq, .int .i64 m.n, .int .i64 m.block, .int .i64 m.client, .int .i64 m.e, .int .i64 m.t0, .int .i64 m.t1, .int .i64 m.t2, .int .i64 m.t3, .string m.data, .string m.row] from rfl]
  go_enter Tryz.func11, Tryz.ntmps11
  go_upto_region 18 with (first
    | (refine wpList_loadMG (by rfl) _ rfl w.heap.size 0 rfl m (mb_range HX.out.1) ?_)
    | (go_at_call 36; with_reducible refine HMy.out.mono ?_; rintro e1 w1 ⟨rfl, hb1⟩
       have HB1 := Lib.hid (HX.out.2.2.trans (hb1.mono HX.out.2.2.size))
       have HM1 := Lib.hid (HX.out.1.below hb1 HX.out.1.lt)
       have HZ1 := Lib.hid (HX.out.2.1.below hb1 HX.out.2.1.lt)
       have c0 := HM1.out.cell 0
       simp only [Mg.cells, List.getElem?_toArray, List.getElem?_cons_zero, List.getElem?_cons_succ] at c0
       rw [HK1.out] at c0
       have S1 : Hid (RW w1 rB LB n d vB kB a b c L W) := Lib.hid (RX.below HS.out HB1.out)
       have q1 := RX.q1 S1.out
       have q3 := RX.q3 S1.out
       have q4 := RX.q4 S1.out
       clear hb1))
  go_still_tail 10, (by kernel_rfl)
  change wpList _ _ _ _ _ w1.drew
  have S0 : Hid (RW w1.drew rB LB n d vB kB a b c L W) := Lib.hid (RX.below S1.out (Below.refl w1.heap.size w1).drew)
  have HB0 : Hid (But (theirs rB LB kB vB) w w1.drew) := Lib.hid ((But.of_below (HB1.out.drew)).mono (by simp))
  have HM0 := Lib.hid (HM1.out.below (Below.refl w1.heap.size w1).drew HM1.out.lt)
  have HZ0 := Lib.hid (HZ1.out.below (Below.refl w1.heap.size w1).drew HZ1.out.lt)
  clear S1 HB1 HM1 HZ1 q1 q3 q4 c0
  generalize w1.drew = w0 at *
  go_upto_region 21 with (first
    | (go_at_call 40; with_reducible refine (HDo.out _ S0.out).mono ?_; rintro e2 w2 ⟨rfl, hs2, hb2⟩
       have S2 := Lib.hid hs2
       have HB2 : Hid (But (theirs rB LB kB vB) w w2) := Lib.hid (HB0.out.trans hb2)
       have HM2 := Lib.hid (mb_but HM0.out hb2 (HNt.out _ (Nat.le_refl _)))
       have HZ2 := Lib.hid (mb_but HZ0.out hb2 (HNt.out _ (Nat.le_succ _)))
       clear hs2 hb2))
  have q1 := RX.q1 S2.out
  have q2 := RX.q2 S2.out
  have q3 := RX.q3 S2.out
  have c3 := HM2.out.cell 3
  simp only [Mg.cells, List.getElem?_toArray, List.getElem?_cons_zero, List.getElem?_cons_succ] at c3
  go_still_tail 17, (by kernel_rfl)
  change wpList _ _ _ _ _ w2.drew
  have S3 := Lib.hid (RX.below S2.out (Below.refl w2.heap.size w2).drew)
  have HB3 := Lib.hid (HB2.out.trans ((But.of_below (Below.refl w2.heap.size w2).drew).mono (by simp)))
  have HZ3 := Lib.hid (HZ2.out.below (Below.refl w2.heap.size w2).drew HZ2.out.lt)
  clear S2 HB2 HZ2 HM2 q1 q2 q3 c3
  generalize w2.drew = w3 at *
  go_wp2_with (first
    | (refine wpList_storeM rfl _ _ rfl (w.heap.size + 1) rfl ⟨4, (fx C2.text).ep, (fx C2.text).ma, m.n, -1, (fx C2.text).ho, E, 0, 0, 0, 0, ⟨#[]⟩, ⟨#[]⟩⟩ rfl (mb_there HZ3.out) ?_; rintro ws rfl))
  exact ret_msgT (m := _) (v := .bool true) Tryz.results11 rfl rfl rfl (Ml.mb_set HZ3.out _) ⟨rfl, RX.but S3.out ((But.refl [w.heap.size + 1] _).sets (w.heap.size + 1) 0 _ (.inl (by simp))) (fun y hy => by simp only [List.mem_cons, List.not_mem_nil, or_false] at hy; subst hy; exact HNt.out _ (Nat.le_succ _)), HB3.out.sets (w.heap.size + 1) 0 _ (.inr (Nat.le_succ _))⟩


set_option maxHeartbeats 4000000 in
theorem rtake_no4B (w : World) {vB kB a b : Nat} {c : M.Cl} {L W : Int} (h : RW w rB LB n d vB kB a b c L W) (fr : Int) (hf : 0 ≤ fr ∧ fr ≤ 1) (m : Mg) (hk : m.kind = 4) (hm : may m = true) {E : Int} {D : M.Dv} {C2 : M.Cl} {L2 : Int}
    (hdo : ∀ w' : World, RW w' rB LB n d vB kB a b c L W → Calls Tryz.prog 40 #[.pointer (some ⟨vB, 0, none⟩), .int .i64 (fx c.text).ep, .int .i64 (-1), .int .i64 (2 - fr), .int .i64 (fx c.text).ch] w' fun e w'' => e = .returned (.int .i64 E) ∧ RW w'' rB LB n D vB kB a b C2 L2 W ∧ But (theirs rB LB kB vB) w' w'') (hE : E = 30) (h3 : (fx c.text).ma ≠ 3) (hI : inM (fx c.text).ma (1 - fr) = true) :
    Calls Tryz.prog 11 #[.pointer (some ⟨vB, 0, none⟩), .int .i64 fr, msgV m] w fun e w' => e = .returned (.tuple #[msgV Ml.nil, .bool false]) ∧ RW w' rB LB n D vB kB a b C2 L2 W ∧ But (theirs rB LB kB vB) w w' := by
  have HX := Lib.hid (tak_boxes w m)
  have HMy := Lib.hid (Ml.refmay_any ((w.alloc (.cells m.cells 37)).alloc (.cells Ml.nil.cells 37)) m)
  have HS := Lib.hid h
  have HDo := Lib.hid hdo
  have HNt : Hid (∀ g, w.heap.size ≤ g → g ∉ theirs rB LB kB vB) := Lib.hid fun g hg => RX.not_mem h hg
  have HK1 := Lib.hid hk
  have hw1 : wrap64 (1 - fr) = 1 - fr := by unfold wrap64; omega
  have hw2 : wrap64 (2 - fr) = 2 - fr := by unfold wrap64; omega
  have h3b : ((fx c.text).ma == 3) = false := by rw [beq_eq_false_iff_ne]; exact h3
  have HIn := Lib.hid (fun w' => rin_any w' (fr := 1 - fr) (fx_ok c.text).2.2.1)
  rw [hI] at HIn
  clear h3 hI
  subst hE
  clear h hdo hk
  have hf0 : ¬ fr < 0 := by omega
  have hf1 : ¬ 1 < fr := by omega
  rw [hm] at HMy
  clear hm
  simp only [Mg.cells, Ml.nil] at HX HMy
  rw [show msgV m = .agg #[.int .i64 m.kind, .int .i64 m.epoch, .int .i64 m.seq, .int .i64 m.n, .int .i64 m.block, .int .i64 m.client, .int .i64 m.e, .int .i64 m.t0, .int .i64 m.t1, .int .i64 m.t2, .int .i64 m.t3, .string m.data, .string m.row] from rfl]
  go_enter Tryz.func11, Tryz.ntmps11
  go_upto_region 18 with (first
    | (refine wpList_loadMG (by rfl) _ rfl w.heap.size 0 rfl m (mb_range HX.out.1) ?_)
    | (go_at_call 36; with_reducible refine HMy.out.mono ?_; rintro e1 w1 ⟨rfl, hb1⟩
       have HB1 := Lib.hid (HX.out.2.2.trans (hb1.mono HX.out.2.2.size))
       have HM1 := Lib.hid (HX.out.1.below hb1 HX.out.1.lt)
       have HZ1 := Lib.hid (HX.out.2.1.below hb1 HX.out.2.1.lt)
       have c0 := HM1.out.cell 0
       simp only [Mg.cells, List.getElem?_toArray, List.getElem?_cons_zero, List.getElem?_cons_succ] at c0
       rw [HK1.out] at c0
       have S1 : Hid (RW w1 rB LB n d vB kB a b c L W) := Lib.hid (RX.below HS.out HB1.out)
       have q1 := RX.q1 S1.out
       have q3 := RX.q3 S1.out
       have q4 := RX.q4 S1.out
       clear hb1)
    | (go_at_call 39; with_reducible refine (HIn.out _).mono ?_; rintro e wi ⟨rfl, rfl⟩))
  go_still_tail 10, (by kernel_rfl)
  change wpList _ _ _ _ _ w1.drew
  have S0 : Hid (RW w1.drew rB LB n d vB kB a b c L W) := Lib.hid (RX.below S1.out (Below.refl w1.heap.size w1).drew)
  have HB0 : Hid (But (theirs rB LB kB vB) w w1.drew) := Lib.hid ((But.of_below (HB1.out.drew)).mono (by simp))
  have HM0 := Lib.hid (HM1.out.below (Below.refl w1.heap.size w1).drew HM1.out.lt)
  have HZ0 := Lib.hid (HZ1.out.below (Below.refl w1.heap.size w1).drew HZ1.out.lt)
  clear S1 HB1 HM1 HZ1 q1 q3 q4 c0
  generalize w1.drew = w0 at *
  go_wp2_with (first
    | (go_at_call 40; with_reducible refine (HDo.out _ S0.out).mono ?_; rintro e2 w2 ⟨rfl, hs2, hb2⟩
       have S2 := Lib.hid hs2
       have HB2 : Hid (But (theirs rB LB kB vB) w w2) := Lib.hid (HB0.out.trans hb2)
       have HM2 := Lib.hid (mb_but HM0.out hb2 (HNt.out _ (Nat.le_refl _)))
       have HZ2 := Lib.hid (mb_but HZ0.out hb2 (HNt.out _ (Nat.le_succ _)))
       clear hs2 hb2)
    | (refine wpList_storeM rfl _ _ rfl (w.heap.size + 1) rfl Ml.nil rfl (mb_there HZ2.out) ?_; rintro ws rfl))
  exact ret_msgT (m := Ml.nil) (v := .bool false) Tryz.results11 rfl rfl rfl (Ml.mb_set HZ2.out _) ⟨rfl, RX.but S2.out ((But.refl [w.heap.size + 1] _).sets (w.heap.size + 1) 0 _ (.inl (by simp))) (fun y hy => by simp only [List.mem_cons, List.not_mem_nil, or_false] at hy; subst hy; exact HNt.out _ (Nat.le_succ _)), HB2.out.sets (w.heap.size + 1) 0 _ (.inr (Nat.le_succ _))⟩


set_option maxHeartbeats 4000000 in
theorem rtake_yes4B (w : World) {vB kB a b : Nat} {c : M.Cl} {L W : Int} (h : RW w rB LB n d vB kB a b c L W) (fr : Int) (hf : 0 ≤ fr ∧ fr ≤ 1) (m : Mg) (hk : m.kind = 4) (hm : may m = true) {E : Int} {D : M.Dv} {C2 : M.Cl} {L2 : Int}
    (hdo : ∀ w' : World, RW w' rB LB n d vB kB a b c L W → Calls Tryz.prog 40 #[.pointer (some ⟨vB, 0, none⟩), .int .i64 (fx c.text).ep, .int .i64 (-1), .int .i64 (2 - fr), .int .i64 (fx c.text).ch] w' fun e w'' => e = .returned (.int .i64 E) ∧ RW w'' rB LB n D vB kB a b C2 L2 W ∧ But (theirs rB LB kB vB) w' w'') (hE : E ≠ 30) (h3 : (fx c.text).ma ≠ 3) (hI : inM (fx c.text).ma (1 - fr) = true) :
    Calls Tryz.prog 11 #[.pointer (some ⟨vB, 0, none⟩), .int .i64 fr, msgV m] w fun e w' => e = .returned (.tuple #[msgV (ansA (fx C2.text) m E), .bool true]) ∧ RW w' rB LB n D vB kB a b C2 L2 W ∧ But (theirs rB LB kB vB) w w' := by
  have HX := Lib.hid (tak_boxes w m)
  have HMy := Lib.hid (Ml.refmay_any ((w.alloc (.cells m.cells 37)).alloc (.cells Ml.nil.cells 37)) m)
  have HS := Lib.hid h
  have HDo := Lib.hid hdo
  have HNt : Hid (∀ g, w.heap.size ≤ g → g ∉ theirs rB LB kB vB) := Lib.hid fun g hg => RX.not_mem h hg
  have HK1 := Lib.hid hk
  have hw1 : wrap64 (1 - fr) = 1 - fr := by unfold wrap64; omega
  have hw2 : wrap64 (2 - fr) = 2 - fr := by unfold wrap64; omega
  have h3b : ((fx c.text).ma == 3) = false := by rw [beq_eq_false_iff_ne]; exact h3
  have HIn := Lib.hid (fun w' => rin_any w' (fr := 1 - fr) (fx_ok c.text).2.2.1)
  rw [hI] at HIn
  clear h3 hI
  have hE2 : (E == 30) = false := by rw [beq_eq_false_iff_ne]; exact hE
  rw [show ansA (fx C2.text) m E = ⟨4, (fx C2.text).ep, (fx C2.text).ma, m.n, -1, (fx C2.text).ho, E, 0, 0, 0, 0, ⟨#[]⟩, ⟨#[]⟩⟩ by unfold ansA ansK; rw [hk]; rfl]
  clear hE
  clear h hdo hk
  have hf0 : ¬ fr < 0 := by omega
  have hf1 : ¬ 1 < fr := by omega
  rw [hm] at HMy
  clear hm
  simp only [Mg.cells, Ml.nil] at HX HMy
  rw [show msgV m = .agg #[.int .i64 m.kind, .int .i64 m.epoch, .int .i64 m.seq, .int .i64 m.n, .int .i64 m.block, .int .i64 m.client, .int .i64 m.e, .int .i64 m.t0, .int .i64 m.t1, .int .i64 m.t2, .int .i64 m.t3, .string m.data, .string m.row] from rfl]
  go_enter Tryz.func11, Tryz.ntmps11
  go_upto_region 18 with (first
    | (refine wpList_loadMG (by rfl) _ rfl w.heap.size 0 rfl m (mb_range HX.out.1) ?_)
    | (go_at_call 36; with_reducible refine HMy.out.mono ?_; rintro e1 w1 ⟨rfl, hb1⟩
       have HB1 := Lib.hid (HX.out.2.2.trans (hb1.mono HX.out.2.2.size))
       have HM1 := Lib.hid (HX.out.1.below hb1 HX.out.1.lt)
       have HZ1 := Lib.hid (HX.out.2.1.below hb1 HX.out.2.1.lt)
       have c0 := HM1.out.cell 0
       simp only [Mg.cells, List.getElem?_toArray, List.getElem?_cons_zero, List.getElem?_cons_succ] at c0
       rw [HK1.out] at c0
       have S1 : Hid (RW w1 rB LB n d vB kB a b c L W) := Lib.hid (RX.below HS.out HB1.out)
       have q1 := RX.q1 S1.out
       have q3 := RX.q3 S1.out
       have q4 := RX.q4 S1.out
       clear hb1)
    | (go_at_call 39; with_reducible refine (HIn.out _).mono ?_; rintro e wi ⟨rfl, rfl⟩))
  go_still_tail 10, (by kernel_rfl)
  change wpList _ _ _ _ _ w1.drew
  have S0 : Hid (RW w1.drew rB LB n d vB kB a b c L W) := Lib.hid (RX.below S1.out (Below.refl w1.heap.size w1).drew)
  have HB0 : Hid (But (theirs rB LB kB vB) w w1.drew) := Lib.hid ((But.of_below (HB1.out.drew)).mono (by simp))
  have HM0 := Lib.hid (HM1.out.below (Below.refl w1.heap.size w1).drew HM1.out.lt)
  have HZ0 := Lib.hid (HZ1.out.below (Below.refl w1.heap.size w1).drew HZ1.out.lt)
  clear S1 HB1 HM1 HZ1 q1 q3 q4 c0
  generalize w1.drew = w0 at *
  go_upto_region 21 with (first
    | (go_at_call 40; with_reducible refine (HDo.out _ S0.out).mono ?_; rintro e2 w2 ⟨rfl, hs2, hb2⟩
       have S2 := Lib.hid hs2
       have HB2 : Hid (But (theirs rB LB kB vB) w w2) := Lib.hid (HB0.out.trans hb2)
       have HM2 := Lib.hid (mb_but HM0.out hb2 (HNt.out _ (Nat.le_refl _)))
       have HZ2 := Lib.hid (mb_but HZ0.out hb2 (HNt.out _ (Nat.le_succ _)))
       clear hs2 hb2))
  have q1 := RX.q1 S2.out
  have q2 := RX.q2 S2.out
  have q3 := RX.q3 S2.out
  have c3 := HM2.out.cell 3
  simp only [Mg.cells, List.getElem?_toArray, List.getElem?_cons_zero, List.getElem?_cons_succ] at c3
  go_still_tail 17, (by kernel_rfl)
  change wpList _ _ _ _ _ w2.drew
  have S3 := Lib.hid (RX.below S2.out (Below.refl w2.heap.size w2).drew)
  have HB3 := Lib.hid (HB2.out.trans ((But.of_below (Below.refl w2.heap.size w2).drew).mono (by simp)))
  have HZ3 := Lib.hid (HZ2.out.below (Below.refl w2.heap.size w2).drew HZ2.out.lt)
  clear S2 HB2 HZ2 HM2 q1 q2 q3 c3
  generalize w2.drew = w3 at *
  go_wp2_with (first
    | (refine wpList_storeM rfl _ _ rfl (w.heap.size + 1) rfl ⟨4, (fx C2.text).ep, (fx C2.text).ma, m.n, -1, (fx C2.text).ho, E, 0, 0, 0, 0, ⟨#[]⟩, ⟨#[]⟩⟩ rfl (mb_there HZ3.out) ?_; rintro ws rfl))
  exact ret_msgT (m := _) (v := .bool true) Tryz.results11 rfl rfl rfl (Ml.mb_set HZ3.out _) ⟨rfl, RX.but S3.out ((But.refl [w.heap.size + 1] _).sets (w.heap.size + 1) 0 _ (.inl (by simp))) (fun y hy => by simp only [List.mem_cons, List.not_mem_nil, or_false] at hy; subst hy; exact HNt.out _ (Nat.le_succ _)), HB3.out.sets (w.heap.size + 1) 0 _ (.inr (Nat.le_succ _))⟩


set_option maxHeartbeats 4000000 in
theorem rtake_no4C (w : World) {vB kB a b : Nat} {c : M.Cl} {L W : Int} (h : RW w rB LB n d vB kB a b c L W) (fr : Int) (hf : 0 ≤ fr ∧ fr ≤ 1) (m : Mg) (hk : m.kind = 4) (hm : may m = true) {E : Int} {D : M.Dv} {C2 : M.Cl} {L2 : Int}
    (hdo : ∀ w' : World, RW w' rB LB n d vB kB a b c L W → Calls Tryz.prog 40 #[.pointer (some ⟨vB, 0, none⟩), .int .i64 (fx c.text).ep, .int .i64 (-1), .int .i64 ((fx c.text).ma), .int .i64 (fx c.text).ch] w' fun e w'' => e = .returned (.int .i64 E) ∧ RW w'' rB LB n D vB kB a b C2 L2 W ∧ But (theirs rB LB kB vB) w' w'') (hE : E = 30) (h3 : (fx c.text).ma ≠ 3) (hI : inM (fx c.text).ma (1 - fr) = false) :
    Calls Tryz.prog 11 #[.pointer (some ⟨vB, 0, none⟩), .int .i64 fr, msgV m] w fun e w' => e = .returned (.tuple #[msgV Ml.nil, .bool false]) ∧ RW w' rB LB n D vB kB a b C2 L2 W ∧ But (theirs rB LB kB vB) w w' := by
  have HX := Lib.hid (tak_boxes w m)
  have HMy := Lib.hid (Ml.refmay_any ((w.alloc (.cells m.cells 37)).alloc (.cells Ml.nil.cells 37)) m)
  have HS := Lib.hid h
  have HDo := Lib.hid hdo
  have HNt : Hid (∀ g, w.heap.size ≤ g → g ∉ theirs rB LB kB vB) := Lib.hid fun g hg => RX.not_mem h hg
  have HK1 := Lib.hid hk
  have hw1 : wrap64 (1 - fr) = 1 - fr := by unfold wrap64; omega
  have hw2 : wrap64 (2 - fr) = 2 - fr := by unfold wrap64; omega
  have h3b : ((fx c.text).ma == 3) = false := by rw [beq_eq_false_iff_ne]; exact h3
  have HIn := Lib.hid (fun w' => rin_any w' (fr := 1 - fr) (fx_ok c.text).2.2.1)
  rw [hI] at HIn
  clear h3 hI
  subst hE
  clear h hdo hk
  have hf0 : ¬ fr < 0 := by omega
  have hf1 : ¬ 1 < fr := by omega
  rw [hm] at HMy
  clear hm
  simp only [Mg.cells, Ml.nil] at HX HMy
  rw [show msgV m = .agg #[.int .i64 m.kind, .int .i64 m.epoch, .int .i64 m.seq, .int .i64 m.n, .int .i64 m.block, .int .i64 m.client, .int .i64 m.e, .int .i64 m.t0, .int .i64 m.t1, .int .i64 m.t2, .int .i64 m.t3, .string m.data, .string m.row] from rfl]
  go_enter Tryz.func11, Tryz.ntmps11
  go_upto_region 18 with (first
    | (refine wpList_loadMG (by rfl) _ rfl w.heap.size 0 rfl m (mb_range HX.out.1) ?_)
    | (go_at_call 36; with_reducible refine HMy.out.mono ?_; rintro e1 w1 ⟨rfl, hb1⟩
       have HB1 := Lib.hid (HX.out.2.2.trans (hb1.mono HX.out.2.2.size))
       have HM1 := Lib.hid (HX.out.1.below hb1 HX.out.1.lt)
       have HZ1 := Lib.hid (HX.out.2.1.below hb1 HX.out.2.1.lt)
       have c0 := HM1.out.cell 0
       simp only [Mg.cells, List.getElem?_toArray, List.getElem?_cons_zero, List.getElem?_cons_succ] at c0
       rw [HK1.out] at c0
       have S1 : Hid (RW w1 rB LB n d vB kB a b c L W) := Lib.hid (RX.below HS.out HB1.out)
       have q1 := RX.q1 S1.out
       have q3 := RX.q3 S1.out
       have q4 := RX.q4 S1.out
       clear hb1)
    | (go_at_call 39; with_reducible refine (HIn.out _).mono ?_; rintro e wi ⟨rfl, rfl⟩))
  go_still_tail 10, (by kernel_rfl)
  change wpList _ _ _ _ _ w1.drew
  have S0 : Hid (RW w1.drew rB LB n d vB kB a b c L W) := Lib.hid (RX.below S1.out (Below.refl w1.heap.size w1).drew)
  have HB0 : Hid (But (theirs rB LB kB vB) w w1.drew) := Lib.hid ((But.of_below (HB1.out.drew)).mono (by simp))
  have HM0 := Lib.hid (HM1.out.below (Below.refl w1.heap.size w1).drew HM1.out.lt)
  have HZ0 := Lib.hid (HZ1.out.below (Below.refl w1.heap.size w1).drew HZ1.out.lt)
  clear S1 HB1 HM1 HZ1 q1 q3 q4 c0
  generalize w1.drew = w0 at *
  go_wp2_with (first
    | (go_at_call 40; with_reducible refine (HDo.out _ S0.out).mono ?_; rintro e2 w2 ⟨rfl, hs2, hb2⟩
       have S2 := Lib.hid hs2
       have HB2 : Hid (But (theirs rB LB kB vB) w w2) := Lib.hid (HB0.out.trans hb2)
       have HM2 := Lib.hid (mb_but HM0.out hb2 (HNt.out _ (Nat.le_refl _)))
       have HZ2 := Lib.hid (mb_but HZ0.out hb2 (HNt.out _ (Nat.le_succ _)))
       clear hs2 hb2)
    | (refine wpList_storeM rfl _ _ rfl (w.heap.size + 1) rfl Ml.nil rfl (mb_there HZ2.out) ?_; rintro ws rfl))
  exact ret_msgT (m := Ml.nil) (v := .bool false) Tryz.results11 rfl rfl rfl (Ml.mb_set HZ2.out _) ⟨rfl, RX.but S2.out ((But.refl [w.heap.size + 1] _).sets (w.heap.size + 1) 0 _ (.inl (by simp))) (fun y hy => by simp only [List.mem_cons, List.not_mem_nil, or_false] at hy; subst hy; exact HNt.out _ (Nat.le_succ _)), HB2.out.sets (w.heap.size + 1) 0 _ (.inr (Nat.le_succ _))⟩


set_option maxHeartbeats 4000000 in
theorem rtake_yes4C (w : World) {vB kB a b : Nat} {c : M.Cl} {L W : Int} (h : RW w rB LB n d vB kB a b c L W) (fr : Int) (hf : 0 ≤ fr ∧ fr ≤ 1) (m : Mg) (hk : m.kind = 4) (hm : may m = true) {E : Int} {D : M.Dv} {C2 : M.Cl} {L2 : Int}
    (hdo : ∀ w' : World, RW w' rB LB n d vB kB a b c L W → Calls Tryz.prog 40 #[.pointer (some ⟨vB, 0, none⟩), .int .i64 (fx c.text).ep, .int .i64 (-1), .int .i64 ((fx c.text).ma), .int .i64 (fx c.text).ch] w' fun e w'' => e = .returned (.int .i64 E) ∧ RW w'' rB LB n D vB kB a b C2 L2 W ∧ But (theirs rB LB kB vB) w' w'') (hE : E ≠ 30) (h3 : (fx c.text).ma ≠ 3) (hI : inM (fx c.text).ma (1 - fr) = false) :
    Calls Tryz.prog 11 #[.pointer (some ⟨vB, 0, none⟩), .int .i64 fr, msgV m] w fun e w' => e = .returned (.tuple #[msgV (ansA (fx C2.text) m E), .bool true]) ∧ RW w' rB LB n D vB kB a b C2 L2 W ∧ But (theirs rB LB kB vB) w w' := by
  have HX := Lib.hid (tak_boxes w m)
  have HMy := Lib.hid (Ml.refmay_any ((w.alloc (.cells m.cells 37)).alloc (.cells Ml.nil.cells 37)) m)
  have HS := Lib.hid h
  have HDo := Lib.hid hdo
  have HNt : Hid (∀ g, w.heap.size ≤ g → g ∉ theirs rB LB kB vB) := Lib.hid fun g hg => RX.not_mem h hg
  have HK1 := Lib.hid hk
  have hw1 : wrap64 (1 - fr) = 1 - fr := by unfold wrap64; omega
  have hw2 : wrap64 (2 - fr) = 2 - fr := by unfold wrap64; omega
  have h3b : ((fx c.text).ma == 3) = false := by rw [beq_eq_false_iff_ne]; exact h3
  have HIn := Lib.hid (fun w' => rin_any w' (fr := 1 - fr) (fx_ok c.text).2.2.1)
  rw [hI] at HIn
  clear h3 hI
  have hE2 : (E == 30) = false := by rw [beq_eq_false_iff_ne]; exact hE
  rw [show ansA (fx C2.text) m E = ⟨4, (fx C2.text).ep, (fx C2.text).ma, m.n, -1, (fx C2.text).ho, E, 0, 0, 0, 0, ⟨#[]⟩, ⟨#[]⟩⟩ by unfold ansA ansK; rw [hk]; rfl]
  clear hE
  clear h hdo hk
  have hf0 : ¬ fr < 0 := by omega
  have hf1 : ¬ 1 < fr := by omega
  rw [hm] at HMy
  clear hm
  simp only [Mg.cells, Ml.nil] at HX HMy
  rw [show msgV m = .agg #[.int .i64 m.kind, .int .i64 m.epoch, .int .i64 m.seq, .int .i64 m.n, .int .i64 m.block, .int .i64 m.client, .int .i64 m.e, .int .i64 m.t0, .int .i64 m.t1, .int .i64 m.t2, .int .i64 m.t3, .string m.data, .string m.row] from rfl]
  go_enter Tryz.func11, Tryz.ntmps11
  go_upto_region 18 with (first
    | (refine wpList_loadMG (by rfl) _ rfl w.heap.size 0 rfl m (mb_range HX.out.1) ?_)
    | (go_at_call 36; with_reducible refine HMy.out.mono ?_; rintro e1 w1 ⟨rfl, hb1⟩
       have HB1 := Lib.hid (HX.out.2.2.trans (hb1.mono HX.out.2.2.size))
       have HM1 := Lib.hid (HX.out.1.below hb1 HX.out.1.lt)
       have HZ1 := Lib.hid (HX.out.2.1.below hb1 HX.out.2.1.lt)
       have c0 := HM1.out.cell 0
       simp only [Mg.cells, List.getElem?_toArray, List.getElem?_cons_zero, List.getElem?_cons_succ] at c0
       rw [HK1.out] at c0
       have S1 : Hid (RW w1 rB LB n d vB kB a b c L W) := Lib.hid (RX.below HS.out HB1.out)
       have q1 := RX.q1 S1.out
       have q3 := RX.q3 S1.out
       have q4 := RX.q4 S1.out
       clear hb1)
    | (go_at_call 39; with_reducible refine (HIn.out _).mono ?_; rintro e wi ⟨rfl, rfl⟩))
  go_still_tail 10, (by kernel_rfl)
  change wpList _ _ _ _ _ w1.drew
  have S0 : Hid (RW w1.drew rB LB n d vB kB a b c L W) := Lib.hid (RX.below S1.out (Below.refl w1.heap.size w1).drew)
  have HB0 : Hid (But (theirs rB LB kB vB) w w1.drew) := Lib.hid ((But.of_below (HB1.out.drew)).mono (by simp))
  have HM0 := Lib.hid (HM1.out.below (Below.refl w1.heap.size w1).drew HM1.out.lt)
  have HZ0 := Lib.hid (HZ1.out.below (Below.refl w1.heap.size w1).drew HZ1.out.lt)
  clear S1 HB1 HM1 HZ1 q1 q3 q4 c0
  generalize w1.drew = w0 at *
  go_upto_region 21 with (first
    | (go_at_call 40; with_reducible refine (HDo.out _ S0.out).mono ?_; rintro e2 w2 ⟨rfl, hs2, hb2⟩
       have S2 := Lib.hid hs2
       have HB2 : Hid (But (theirs rB LB kB vB) w w2) := Lib.hid (HB0.out.trans hb2)
       have HM2 := Lib.hid (mb_but HM0.out hb2 (HNt.out _ (Nat.le_refl _)))
       have HZ2 := Lib.hid (mb_but HZ0.out hb2 (HNt.out _ (Nat.le_succ _)))
       clear hs2 hb2))
  have q1 := RX.q1 S2.out
  have q2 := RX.q2 S2.out
  have q3 := RX.q3 S2.out
  have c3 := HM2.out.cell 3
  simp only [Mg.cells, List.getElem?_toArray, List.getElem?_cons_zero, List.getElem?_cons_succ] at c3
  go_still_tail 17, (by kernel_rfl)
  change wpList _ _ _ _ _ w2.drew
  have S3 := Lib.hid (RX.below S2.out (Below.refl w2.heap.size w2).drew)
  have HB3 := Lib.hid (HB2.out.trans ((But.of_below (Below.refl w2.heap.size w2).drew).mono (by simp)))
  have HZ3 := Lib.hid (HZ2.out.below (Below.refl w2.heap.size w2).drew HZ2.out.lt)
  clear S2 HB2 HZ2 HM2 q1 q2 q3 c3
  generalize w2.drew = w3 at *
  go_wp2_with (first
    | (refine wpList_storeM rfl _ _ rfl (w.heap.size + 1) rfl ⟨4, (fx C2.text).ep, (fx C2.text).ma, m.n, -1, (fx C2.text).ho, E, 0, 0, 0, 0, ⟨#[]⟩, ⟨#[]⟩⟩ rfl (mb_there HZ3.out) ?_; rintro ws rfl))
  exact ret_msgT (m := _) (v := .bool true) Tryz.results11 rfl rfl rfl (Ml.mb_set HZ3.out _) ⟨rfl, RX.but S3.out ((But.refl [w.heap.size + 1] _).sets (w.heap.size + 1) 0 _ (.inl (by simp))) (fun y hy => by simp only [List.mem_cons, List.not_mem_nil, or_false] at hy; subst hy; exact HNt.out _ (Nat.le_succ _)), HB3.out.sets (w.heap.size + 1) 0 _ (.inr (Nat.le_succ _))⟩

end Go.Proofs.YtpoolpckabpnfaaGreat.Wt
