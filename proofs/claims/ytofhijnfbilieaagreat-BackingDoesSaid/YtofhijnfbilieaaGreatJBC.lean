/-
  A message is taken.
  A message is taken: where its epoch may not be admitted.
  A message is taken: a load.
  A message is taken: a store.
  A message is taken, in every case.
-/
import Derived.Test.YtofhijnfbilieaaGreatJBB
import Derived.Test.YtofhijnfbilieaaGreatJM
namespace Go.Proofs.YtofhijnfbilieaaGreat.Bk
open Go.RowKit
open Ml (Mg may msgV)
set_option linter.unusedVariables false
set_option linter.unusedSimpArgs false
set_option maxRecDepth 20000

variable {dB sB mB n : Nat} {d : M.Dv}

theorem ret_msgT {fn : Func} (hres : fn.results = #[.cell 4 37, .tmp 5]) {R : Ending → World → Prop} {a : Act} {w : World} {g : Nat} {m : Mg} {v : Value} (h2 : a.tmps.getD 4 undef = .pointer (some ⟨g, 0, none⟩)) (h3 : a.tmps.getD 5 undef = v) (hd : a.defers = []) (h : Ml.MB w g m)
    (hR : R (.returned (.tuple #[msgV m, v])) w) : bodyPost Tryz.prog fn R .ret a w := by
  obtain ⟨k0, k1, k2, k3, k4, k5, k6, k7, k8, k9, k10, k11, k12⟩ := h.cells
  simp only [Array.getD_eq_getD_getElem?] at h2 h3
  refine bodyPost_ret_by ?_ hd hR
  simp [results, hres, h2, h3, go_sem, k0, k1, k2, k3, k4, k5, k6, k7, k8, k9, k10, k11, k12, msgV, Ml.Mg.cells]

theorem MB.but {w w' : World} {g : Nat} {m : Mg} (h : Ml.MB w g m) {l : List Nat} (hb : But l w w') (hn : g ∉ l) : Ml.MB w' g m := Bo.but (cs := m.cells) h hb hn
/-- the boxes of a message, and of what is answered -/
theorem tak_boxes (w : World) (x : Mg) : Ml.MB ((w.alloc (.cells x.cells 37)).alloc (.cells Ml.nil.cells 37)) w.heap.size x ∧ Ml.MB ((w.alloc (.cells x.cells 37)).alloc (.cells Ml.nil.cells 37)) (w.heap.size + 1) Ml.nil ∧
    Below w.heap.size w ((w.alloc (.cells x.cells 37)).alloc (.cells Ml.nil.cells 37)) :=
  ⟨(Ml.MB.new w x).below ((Below.refl (w.heap.size + 1) _).alloc (by simp) _) (by omega), Bo.new2 w _ _ _ _, ((Below.refl _ _).alloc (Nat.le_refl _) _).alloc (by simp) _⟩
theorem mb_nil {w : World} {g : Nat} (h : Ml.MB w g Ml.nil) : w.heap[g]? = some (.cells #[.int .i64 0, .int .i64 0, .int .i64 0, .int .i64 0, .int .i64 0, .int .i64 0, .int .i64 0, .int .i64 0, .int .i64 0, .int .i64 0, .int .i64 0, .string ⟨#[]⟩, .string ⟨#[]⟩] 37 (0, 0)) := h

set_option maxHeartbeats 2000000 in
theorem take_kind (w : World) (tB : Nat) (m : Mg) (h1 : m.kind ≠ 10) (h2 : m.kind ≠ 12) :
    Calls Tryz.prog 10 #[.pointer (some ⟨tB, 0, none⟩), msgV m] w fun e w' => e = .returned (.tuple #[msgV Ml.nil, .bool false]) ∧ Below w.heap.size w w' := by
  have HX := Lib.hid (tak_boxes w m)
  obtain ⟨kind, epoch, seq, nn, block, client, e, t0, t1, t2, t3, data, row⟩ := m
  simp only at h1 h2
  have h1' : (kind != 10) = true := by rw [bne_iff_ne]; exact h1
  have h2' : (kind != 12) = true := by rw [bne_iff_ne]; exact h2
  clear h1 h2
  have HZ := Lib.hid HX.out.2.1
  have HB := Lib.hid HX.out.2.2
  obtain ⟨z0, z1, z2, z3, z4, z5, z6, z7, z8, z9, z10, z11, z12⟩ := HX.out.2.1.cells
  have zf := HX.out.2.1.fz
  simp only [msgV, Ml.Mg.cells, Ml.nil] at HX HZ HB z0 z1 z2 z3 z4 z5 z6 z7 z8 z9 z10 z11 z12 zf ⊢
  go_enter Tryz.func10, Tryz.ntmps10
  go_wp2
  exact ret_msgT (m := Ml.nil) Tryz.results10 rfl rfl rfl HZ.out ⟨rfl, HB.out⟩

set_option maxHeartbeats 2000000 in
theorem take_may (w : World) (tB : Nat) (m : Mg) (h1 : m.kind = 10 ∨ m.kind = 12) (h2 : may m = false) :
    Calls Tryz.prog 10 #[.pointer (some ⟨tB, 0, none⟩), msgV m] w fun e w' => e = .returned (.tuple #[msgV Ml.nil, .bool false]) ∧ Below w.heap.size w w' := by
  have HX := Lib.hid (tak_boxes w m)
  have HMy := Lib.hid (Ml.may_any ((w.alloc (.cells m.cells 37)).alloc (.cells Ml.nil.cells 37)) m)
  rw [h2] at HMy
  clear h2
  obtain ⟨kind, epoch, seq, nn, block, client, e, t0, t1, t2, t3, data, row⟩ := m
  have HZ := Lib.hid HX.out.2.1
  have HB := Lib.hid HX.out.2.2
  simp only [msgV, Ml.Mg.cells, Ml.nil] at h1 HX HMy HB ⊢
  rcases h1 with rfl | rfl
  all_goals
    go_enter Tryz.func10, Tryz.ntmps10
    go_upto_region 2 with (first
      | (go_at_call 29; with_reducible refine HMy.out.mono ?_; rintro e1 w1 ⟨rfl, hb1⟩
         have HB1 := Lib.hid (HB.out.trans (hb1.mono HB.out.size))
         have HZ1 := Lib.hid (HZ.out.below hb1 HZ.out.lt)
         clear hb1))
    obtain ⟨z0, z1, z2, z3, z4, z5, z6, z7, z8, z9, z10, z11, z12⟩ := HZ1.out.cells
    have zf := HZ1.out.fz
    simp only [Ml.nil] at z0 z1 z2 z3 z4 z5 z6 z7 z8 z9 z10 z11 z12
    go_wp2
    exact ret_msgT (m := Ml.nil) Tryz.results10 rfl rfl rfl (Ml.mb_set' HZ1.out) ⟨rfl, Ml.sets_below (o := 0) HB1.out Ml.nil.cells.toList (Nat.le_succ _)⟩
end Go.Proofs.YtofhijnfbilieaaGreat.Bk
namespace Go.Proofs.YtofhijnfbilieaaGreat.Bk
open Go.RowKit
open Ml (Mg may msgV)
set_option linter.unusedVariables false
set_option linter.unusedSimpArgs false
set_option maxRecDepth 20000

variable {dB sB mB n : Nat} {d : M.Dv}

theorem Bo.set {w : World} {g : Nat} {cs : Array Value} {t : TypeId} (h : Bo w g cs t) (o : Nat) (v : Value) : Bo (w.setCell ⟨g, o, none⟩ v) g (cs.setIfInBounds o v) t := by
  unfold Bo at h ⊢
  simp only [World.setCell, Array.getElem?_modify, if_pos]
  simp [h]
theorem mb_e {w : World} {g : Nat} {m : Mg} (h : Ml.MB w g m) (E : Int) : Ml.MB (w.setCell ⟨g, 6, none⟩ (.int .i64 E)) g { m with e := E } := Bo.set (cs := m.cells) h 6 _
theorem mb_load {w : World} {g : Nat} {m : Mg} (h : Ml.MB w g m) (s : ByteArray) (a b c e : Int) (E : Int) :
    Ml.MB ((((((w.setCell ⟨g, 11, none⟩ (.string s)).setCell ⟨g, 7, none⟩ (.int .i64 a)).setCell ⟨g, 8, none⟩ (.int .i64 b)).setCell ⟨g, 9, none⟩ (.int .i64 c)).setCell ⟨g, 10, none⟩ (.int .i64 e)).setCell ⟨g, 6, none⟩ (.int .i64 E)) g { m with e := E, t0 := a, t1 := b, t2 := c, t3 := e, data := s } :=
  Bo.set (Bo.set (Bo.set (Bo.set (Bo.set (Bo.set (cs := m.cells) h 11 _) 7 _) 8 _) 9 _) 10 _) 6 _

/-- what is there where the answer's box has been made -/
theorem tak_start {w : World} {m : Mg} {w1 w2 : World} (hb1 : Below ((w.alloc (.cells m.cells 37)).alloc (.cells Ml.nil.cells 37)).heap.size ((w.alloc (.cells m.cells 37)).alloc (.cells Ml.nil.cells 37)) w1) (hb2 : Below w1.heap.size w1 w2) (a : Mg) :
    Ml.MB (w2.alloc (.cells a.cells 37)) w.heap.size m ∧ Ml.MB (w2.alloc (.cells a.cells 37)) (w.heap.size + 1) Ml.nil ∧ Ml.MB (w2.alloc (.cells a.cells 37)) w2.heap.size a ∧ Below w.heap.size w (w2.alloc (.cells a.cells 37)) ∧ w.heap.size + 2 ≤ w2.heap.size := by
  obtain ⟨h1, h2, h3⟩ := tak_boxes w m
  have hs1 := hb1.size
  have hs2 := hb2.size
  rw [show ((w.alloc (.cells m.cells 37)).alloc (.cells Ml.nil.cells 37)).heap.size = w.heap.size + 2 by simp] at hb1 hs1
  have h4 : Below (w.heap.size + 2) ((w.alloc (.cells m.cells 37)).alloc (.cells Ml.nil.cells 37)) (w2.alloc (.cells a.cells 37)) := (hb1.trans (hb2.mono hs1)).alloc (by omega) _
  exact ⟨h1.below h4 (by omega), h2.below h4 (by omega), Ml.MB.new w2 a, h3.trans (h4.mono (by omega)), by omega⟩

set_option maxHeartbeats 4000000 in
theorem take_err (w : World) {tB bl f : Nat} {K : Nat → Nat} {Q : Cs} (h : ST w dB sB mB n d tB bl f K Q) (m : Mg) (hk : m.kind = 10 ∨ m.kind = 12) (hm : may m = true) (hE : admE n f d Q m.epoch ≠ 0) :
    Calls Tryz.prog 10 #[.pointer (some ⟨tB, 0, none⟩), msgV m] w fun e w' =>
      e = .returned (.tuple #[msgV (if admE n f d Q m.epoch = 30 then Ml.nil else { ans0 m with e := admE n f d Q m.epoch }), .bool (!decide (admE n f d Q m.epoch = 30))]) ∧
      ST w' dB sB mB n (admD n f d Q m.epoch) tB bl f K (admC n f d Q m.epoch) ∧ But (ours dB sB mB bl K) w w' := by
  have HS := Lib.hid h
  have HMy := Lib.hid (Ml.may_any ((w.alloc (.cells m.cells 37)).alloc (.cells Ml.nil.cells 37)) m)
  rw [hm] at HMy
  have HAn := Lib.hid (fun w' => answer_any w' m)
  have hep : 0 ≤ m.epoch ∧ m.epoch ≤ big := ((Ml.may_iff m).1 hm).2.1
  have HAd : Hid (∀ w', ST w' dB sB mB n d tB bl f K Q → Calls Tryz.prog 31 #[.pointer (some ⟨tB, 0, none⟩), .int .i64 m.epoch] w' fun e w'' => e = .returned (.int .i64 (admE n f d Q m.epoch)) ∧ ST w'' dB sB mB n (admD n f d Q m.epoch) tB bl f K (admC n f d Q m.epoch) ∧ But (ours dB sB mB bl K) w' w'') := Lib.hid fun w' h => admit_any w' h m.epoch hep
  have HI : Hid (∀ b, w.heap.size ≤ b → b ∉ ours dB sB mB bl K) := Lib.hid fun b hb hx => by have := h.ours_lt.2 b hx; omega
  have HI2 : Hid (∀ b, w.heap.size ≤ b → ∀ x ∈ [b], x ≠ tB ∧ x ∉ ours dB sB mB bl K) := Lib.hid fun b hb x hx => by
    simp only [List.mem_singleton] at hx
    subst hx
    exact ⟨by have := h.ours_lt.1; omega, HI.out x hb⟩
  generalize admE n f d Q m.epoch = E at *
  generalize admD n f d Q m.epoch = D at *
  generalize admC n f d Q m.epoch = Q2 at *
  have HX := Lib.hid (fun w1 w2 => @tak_start w m w1 w2)
  have HX0 := Lib.hid (tak_boxes w m).1
  have hE' : (E != 0) = true := by rw [bne_iff_ne]; exact hE
  generalize ha : ans0 m = a at *
  have hka : a.kind = a.kind := rfl
  obtain ⟨kind, epoch, seq, nn, block, client, e, t0, t1, t2, t3, data, row⟩ := m
  obtain ⟨akind, aepoch, aseq, ann, ablock, aclient, ae, at0, at1, at2, at3, adata, arow⟩ := a
  simp only [msgV, Ml.Mg.cells, Ml.nil] at hk HMy HAn HX HX0 HAd ⊢
  clear h hm hep ha hka hE
  by_cases h30 : E = 30
  case' pos =>
    have h30' : (E == 30) = true := by rw [beq_iff_eq]; exact h30
    rw [if_pos h30, decide_eq_true h30]
  case' neg =>
    have h30' : (E == 30) = false := by rw [beq_eq_false_iff_ne]; exact h30
    rw [if_neg h30, decide_eq_false h30]
  all_goals
    clear h30
    simp only [Bool.not_true, Bool.not_false]
    rcases hk with rfl | rfl
    all_goals
      go_enter Tryz.func10, Tryz.ntmps10
      go_upto_region 6 with (first
        | (go_at_call 29; with_reducible refine HMy.out.mono ?_; rintro e1 w1 ⟨rfl, hb1⟩
           have HB1 := Lib.hid hb1
           have HM1 := Lib.hid (HX0.out.below hb1 HX0.out.lt)
           obtain ⟨c0, c1, c2, c3, c4, c5, c6, c7, c8, c9, c10, c11, c12⟩ := HM1.out.cells
           clear hb1)
        | (go_at_call 30; refine (HAn.out _).mono ?_; rintro e2 w2 ⟨rfl, hb2⟩
           have H2 := Lib.hid (HX.out _ _ HB1.out hb2 ⟨akind, aepoch, aseq, ann, ablock, aclient, ae, at0, at1, at2, at3, adata, arow⟩)
           clear hb2 c0 c1 c2 c3 c4 c5 c6 c7 c8 c9 c10 c11 c12
           have x1 := H2.out.1.cells.2.1)
        | (go_at_call 31; refine (HAd.out _ (HS.out.below H2.out.2.2.2.1)).mono ?_; rintro e3 w3 ⟨rfl, hs3, hb3⟩
           have HS3 := Lib.hid hs3
           have HB3 := Lib.hid (((But.of_below H2.out.2.2.2.1).mono (by simp)).trans hb3)
           have HA3 := Lib.hid (MB.but H2.out.2.2.1 hb3 (HI.out _ (by have := H2.out.2.2.2.2; omega)))
           have HZ3 := Lib.hid (MB.but H2.out.2.1 hb3 (HI.out _ (Nat.le_succ _)))
           have HM3 := Lib.hid (MB.but H2.out.1 hb3 (HI.out _ (Nat.le_refl _)))
           have y6 := HA3.out.cells.2.2.2.2.2.2.1
           have yf := HA3.out.fz 6
           clear hs3 hb3 x1))
      have hg2 := H2.out.2.2.2.2
      have HA4 := Lib.hid (mb_e HA3.out E)
      have HZ4 := Lib.hid (MB.other HZ3.out (p := ⟨w2.heap.size, 6, none⟩) (by show w2.heap.size ≠ w.heap.size + 1; omega) (.int .i64 E))
      have HS4 := Lib.hid (HS3.out.but ((But.refl [w2.heap.size] w3).set (p := ⟨w2.heap.size, 6, none⟩) (.int .i64 E) (.inl (by simp))) (HI2.out _ (by omega)))
      have HB4 := Lib.hid (HB3.out.set (p := ⟨w2.heap.size, 6, none⟩) (.int .i64 E) (.inr (by show w.heap.size ≤ w2.heap.size; omega)))
      clear y6 yf HA3 HZ3 HS3 HB3 HM3 H2 HMy HAn HAd HX HX0
      generalize w3.setCell ⟨w2.heap.size, 6, none⟩ (.int .i64 E) = w4 at *
      obtain ⟨c0, c1, c2, c3, c4, c5, c6, c7, c8, c9, c10, c11, c12⟩ := HA4.out.cells
      obtain ⟨z0, z1, z2, z3, z4, z5, z6, z7, z8, z9, z10, z11, z12⟩ := HZ4.out.cells
      have zf := HZ4.out.fz
      simp only at c0 c1 c2 c3 c4 c5 c6 c7 c8 c9 c10 c11 c12 z0 z1 z2 z3 z4 z5 z6 z7 z8 z9 z10 z11 z12
      go_wp2
      first
        | exact ret_msgT (m := ⟨0, 0, 0, 0, 0, 0, 0, 0, 0, 0, 0, ⟨#[]⟩, ⟨#[]⟩⟩) (v := .bool false) Tryz.results10 rfl rfl rfl (Ml.mb_set' HZ4.out) ⟨rfl, HS4.out.but ((But.refl [w.heap.size + 1] w4).sets (w.heap.size + 1) 0 (Ml.Mg.cells ⟨0, 0, 0, 0, 0, 0, 0, 0, 0, 0, 0, ⟨#[]⟩, ⟨#[]⟩⟩).toList (.inl (by simp))) (HI2.out _ (Nat.le_succ _)), HB4.out.sets (w.heap.size + 1) 0 (Ml.Mg.cells ⟨0, 0, 0, 0, 0, 0, 0, 0, 0, 0, 0, ⟨#[]⟩, ⟨#[]⟩⟩).toList (.inr (Nat.le_succ _))⟩
        | exact ret_msgT (m := ⟨akind, aepoch, aseq, ann, ablock, aclient, E, at0, at1, at2, at3, adata, arow⟩) (v := .bool true) Tryz.results10 rfl rfl rfl (Ml.mb_set' HZ4.out) ⟨rfl, HS4.out.but ((But.refl [w.heap.size + 1] w4).sets (w.heap.size + 1) 0 (Ml.Mg.cells ⟨akind, aepoch, aseq, ann, ablock, aclient, E, at0, at1, at2, at3, adata, arow⟩).toList (.inl (by simp))) (HI2.out _ (Nat.le_succ _)), HB4.out.sets (w.heap.size + 1) 0 (Ml.Mg.cells ⟨akind, aepoch, aseq, ann, ablock, aclient, E, at0, at1, at2, at3, adata, arow⟩).toList (.inr (Nat.le_succ _))⟩
end Go.Proofs.YtofhijnfbilieaaGreat.Bk
namespace Go.Proofs.YtofhijnfbilieaaGreat.Bk
open Go.RowKit
open Ml (Mg may msgV)
set_option linter.unusedVariables false
set_option linter.unusedSimpArgs false
set_option maxRecDepth 20000

variable {dB sB mB n : Nat} {d : M.Dv}

set_option maxHeartbeats 4000000 in
theorem take_load (w : World) {tB bl f : Nat} {K : Nat → Nat} {Q : Cs} (h : ST w dB sB mB n d tB bl f K Q) (m : Mg) (hk : m.kind = 12) (hm : may m = true) (hE : admE n f d Q m.epoch = 0) :
    Calls Tryz.prog 10 #[.pointer (some ⟨tB, 0, none⟩), msgV m] w fun e w' =>
      e = .returned (.tuple #[msgV { ans0 m with e := loaE bl m.block, t0 := (loaT bl (admC n f d Q m.epoch) m.block).a, t1 := (loaT bl (admC n f d Q m.epoch) m.block).b, t2 := (loaT bl (admC n f d Q m.epoch) m.block).c, t3 := (loaT bl (admC n f d Q m.epoch) m.block).d, data := loaS bl (admC n f d Q m.epoch) m.block }, .bool true]) ∧
      ST w' dB sB mB n (admD n f d Q m.epoch) tB bl f K (admC n f d Q m.epoch) ∧ But (ours dB sB mB bl K) w w' := by
  have HS := Lib.hid h
  have HMy := Lib.hid (Ml.may_any ((w.alloc (.cells m.cells 37)).alloc (.cells Ml.nil.cells 37)) m)
  rw [hm] at HMy
  have HAn := Lib.hid (fun w' => answer_any w' m)
  have hep : 0 ≤ m.epoch ∧ m.epoch ≤ big := ((Ml.may_iff m).1 hm).2.1
  have HAd : Hid (∀ w', ST w' dB sB mB n d tB bl f K Q → Calls Tryz.prog 31 #[.pointer (some ⟨tB, 0, none⟩), .int .i64 m.epoch] w' fun e w'' => e = .returned (.int .i64 0) ∧ ST w'' dB sB mB n (admD n f d Q m.epoch) tB bl f K (admC n f d Q m.epoch) ∧ But (ours dB sB mB bl K) w' w'') := Lib.hid fun w' h => by rw [← hE]; exact admit_any w' h m.epoch hep
  have HI : Hid (∀ b, w.heap.size ≤ b → b ∉ ours dB sB mB bl K) := Lib.hid fun b hb hx => by have := h.ours_lt.2 b hx; omega
  have HI2 : Hid (∀ b, w.heap.size ≤ b → ∀ x ∈ [b], x ≠ tB ∧ x ∉ ours dB sB mB bl K) := Lib.hid fun b hb x hx => by
    simp only [List.mem_singleton] at hx
    subst hx
    exact ⟨by have := h.ours_lt.1; omega, HI.out x hb⟩
  have HLo : Hid (∀ w', ST w' dB sB mB n (admD n f d Q m.epoch) tB bl f K (admC n f d Q m.epoch) → Calls Tryz.prog 32 #[.pointer (some ⟨tB, 0, none⟩), .int .i64 m.block] w' fun e w'' => e = .returned (.tuple #[.string (loaS bl (admC n f d Q m.epoch) m.block), t4V (loaT bl (admC n f d Q m.epoch) m.block), .int .i64 (loaE bl m.block)]) ∧ Below w'.heap.size w' w'') := Lib.hid fun w' h => load_any w' h m.block
  have hlE : ¬ loaE bl m.block = 30 := by unfold loaE; split <;> omega
  generalize loaS bl (admC n f d Q m.epoch) m.block = lS at *
  generalize loaT bl (admC n f d Q m.epoch) m.block = lT at *
  generalize loaE bl m.block = E at *
  generalize admD n f d Q m.epoch = D at *
  generalize admC n f d Q m.epoch = Q2 at *
  obtain ⟨la, lb, lc, ld⟩ := lT
  simp only [t4V] at HLo
  have h30' : (E == 30) = false := by rw [beq_eq_false_iff_ne]; exact hlE
  have HX := Lib.hid (fun w1 w2 => @tak_start w m w1 w2)
  have HX0 := Lib.hid (tak_boxes w m).1
  generalize ha : ans0 m = a at *
  have hka : a.kind = a.kind := rfl
  obtain ⟨kind, epoch, seq, nn, block, client, e, t0, t1, t2, t3, data, row⟩ := m
  simp only at hk
  subst hk
  obtain ⟨akind, aepoch, aseq, ann, ablock, aclient, ae, at0, at1, at2, at3, adata, arow⟩ := a
  simp only [msgV, Ml.Mg.cells, Ml.nil] at HMy HAn HX HX0 HAd ⊢
  clear h hm hep ha hka hE
  go_enter Tryz.func10, Tryz.ntmps10
  go_upto_region 6 with (first
    | (go_at_call 29; with_reducible refine HMy.out.mono ?_; rintro e1 w1 ⟨rfl, hb1⟩
       have HB1 := Lib.hid hb1
       have HM1 := Lib.hid (HX0.out.below hb1 HX0.out.lt)
       obtain ⟨c0, c1, c2, c3, c4, c5, c6, c7, c8, c9, c10, c11, c12⟩ := HM1.out.cells
       clear hb1)
    | (go_at_call 30; refine (HAn.out _).mono ?_; rintro e2 w2 ⟨rfl, hb2⟩
       have H2 := Lib.hid (HX.out _ _ HB1.out hb2 ⟨akind, aepoch, aseq, ann, ablock, aclient, ae, at0, at1, at2, at3, adata, arow⟩)
       clear hb2 c0 c1 c2 c3 c4 c5 c6 c7 c8 c9 c10 c11 c12
       have x1 := H2.out.1.cells.2.1)
    | (go_at_call 31; refine (HAd.out _ (HS.out.below H2.out.2.2.2.1)).mono ?_; rintro e3 w3 ⟨rfl, hs3, hb3⟩
       have HS3 := Lib.hid hs3
       have HB3 := Lib.hid (((But.of_below H2.out.2.2.2.1).mono (by simp)).trans hb3)
       have HA3 := Lib.hid (MB.but H2.out.2.2.1 hb3 (HI.out _ (by have := H2.out.2.2.2.2; omega)))
       have HZ3 := Lib.hid (MB.but H2.out.2.1 hb3 (HI.out _ (Nat.le_succ _)))
       have HM3 := Lib.hid (MB.but H2.out.1 hb3 (HI.out _ (Nat.le_refl _)))
       have y6 := HA3.out.cells.2.2.2.2.2.2.1
       have yf := HA3.out.fz 6
       clear hs3 hb3 x1))
  have hg2 := H2.out.2.2.2.2
  have HA4 := Lib.hid (mb_e HA3.out 0)
  have HM4 := Lib.hid (MB.other HM3.out (p := ⟨w2.heap.size, 6, none⟩) (by show w2.heap.size ≠ w.heap.size; omega) (.int .i64 0))
  have HZ4 := Lib.hid (MB.other HZ3.out (p := ⟨w2.heap.size, 6, none⟩) (by show w2.heap.size ≠ w.heap.size + 1; omega) (.int .i64 0))
  have HS4 := Lib.hid (HS3.out.but ((But.refl [w2.heap.size] w3).set (p := ⟨w2.heap.size, 6, none⟩) (.int .i64 0) (.inl (by simp))) (HI2.out _ (by omega)))
  have HB4 := Lib.hid (HB3.out.set (p := ⟨w2.heap.size, 6, none⟩) (.int .i64 0) (.inr (by show w.heap.size ≤ w2.heap.size; omega)))
  clear y6 yf HA3 HZ3 HS3 HB3 HM3 H2 HMy HAn HAd HX HX0
  generalize w3.setCell ⟨w2.heap.size, 6, none⟩ (.int .i64 0) = w4 at *
  obtain ⟨m0, m1, m2, m3, m4, m5, m6, m7, m8, m9, m10, m11, m12⟩ := HM4.out.cells
  have c6 := HA4.out.cells.2.2.2.2.2.2.1
  simp only at m0 m4 c6
  clear m1 m2 m3 m5 m6 m7 m8 m9 m10 m11 m12
  go_upto_region 9 with (first
    | (go_at_call 32; refine (HLo.out _ HS4.out).mono ?_; rintro e5 w5 ⟨rfl, hb5⟩
       have HA5 := Lib.hid (HA4.out.below hb5 HA4.out.lt)
       have HZ5 := Lib.hid (HZ4.out.below hb5 HZ4.out.lt)
       have HS5 := Lib.hid (HS4.out.below hb5)
       have HB5 := Lib.hid (HB4.out.trans ((But.of_below hb5).mono (by simp)))
       obtain ⟨c0, c1, c2, c3, c4, c5, c6, c7, c8, c9, c10, c11, c12⟩ := HA5.out.cells
       have cf := HA5.out.fz
       simp only at c0 c1 c2 c3 c4 c5 c6 c7 c8 c9 c10 c11 c12
       clear hb5 m0 m4))
  have HA6 := Lib.hid (mb_load HA5.out lS la lb lc ld E)
  have HB6 : Hid (But [w2.heap.size] w5 ((((((w5.setCell ⟨w2.heap.size, 11, none⟩ (.string lS)).setCell ⟨w2.heap.size, 7, none⟩ (.int .i64 la)).setCell ⟨w2.heap.size, 8, none⟩ (.int .i64 lb)).setCell ⟨w2.heap.size, 9, none⟩ (.int .i64 lc)).setCell ⟨w2.heap.size, 10, none⟩ (.int .i64 ld)).setCell ⟨w2.heap.size, 6, none⟩ (.int .i64 E))) := Lib.hid
    ((((((((But.refl [w2.heap.size] w5).set (p := ⟨w2.heap.size, 11, none⟩) (.string lS) (.inl (by simp))).set (p := ⟨w2.heap.size, 7, none⟩) (.int .i64 la) (.inl (by simp))).set (p := ⟨w2.heap.size, 8, none⟩) (.int .i64 lb) (.inl (by simp))).set (p := ⟨w2.heap.size, 9, none⟩) (.int .i64 lc) (.inl (by simp))).set (p := ⟨w2.heap.size, 10, none⟩) (.int .i64 ld) (.inl (by simp))).set (p := ⟨w2.heap.size, 6, none⟩) (.int .i64 E) (.inl (by simp))))
  clear c0 c1 c2 c3 c4 c5 c6 c7 c8 c9 c10 c11 c12 cf HA5 HA4 HZ4 HS4 HB4 HM4
  generalize (((((w5.setCell ⟨w2.heap.size, 11, none⟩ (.string lS)).setCell ⟨w2.heap.size, 7, none⟩ (.int .i64 la)).setCell ⟨w2.heap.size, 8, none⟩ (.int .i64 lb)).setCell ⟨w2.heap.size, 9, none⟩ (.int .i64 lc)).setCell ⟨w2.heap.size, 10, none⟩ (.int .i64 ld)).setCell ⟨w2.heap.size, 6, none⟩ (.int .i64 E) = w6 at *
  have HZ6 := Lib.hid (MB.but HZ5.out HB6.out (by simp; omega))
  have HS6 := Lib.hid (HS5.out.but HB6.out (HI2.out _ (by omega)))
  have HB7 : Hid (But (w2.heap.size :: ours dB sB mB bl K) w w6) := Lib.hid ((HB5.out.mono (by simp; intro x hx; exact .inr hx)).trans (HB6.out.mono (by simp)))
  obtain ⟨c0, c1, c2, c3, c4, c5, c6, c7, c8, c9, c10, c11, c12⟩ := HA6.out.cells
  obtain ⟨z0, z1, z2, z3, z4, z5, z6, z7, z8, z9, z10, z11, z12⟩ := HZ6.out.cells
  have zf := HZ6.out.fz
  simp only at c0 c1 c2 c3 c4 c5 c6 c7 c8 c9 c10 c11 c12 z0 z1 z2 z3 z4 z5 z6 z7 z8 z9 z10 z11 z12
  have HB8 : Hid (But (ours dB sB mB bl K) w w6) := Lib.hid ⟨HB7.out.os, HB7.out.tape, HB7.out.output, HB7.out.size, fun i hi hn => HB7.out.block i hi (by simp only [List.mem_cons, not_or]; exact ⟨by omega, hn⟩)⟩
  go_wp2
  exact ret_msgT (m := ⟨akind, aepoch, aseq, ann, ablock, aclient, E, la, lb, lc, ld, lS, arow⟩) (v := .bool true) Tryz.results10 rfl rfl rfl (Ml.mb_set' HZ6.out) ⟨rfl, HS6.out.but ((But.refl [w.heap.size + 1] w6).sets (w.heap.size + 1) 0 (Ml.Mg.cells ⟨akind, aepoch, aseq, ann, ablock, aclient, E, la, lb, lc, ld, lS, arow⟩).toList (.inl (by simp))) (HI2.out _ (Nat.le_succ _)), HB8.out.sets (w.heap.size + 1) 0 (Ml.Mg.cells ⟨akind, aepoch, aseq, ann, ablock, aclient, E, la, lb, lc, ld, lS, arow⟩).toList (.inr (Nat.le_succ _))⟩
end Go.Proofs.YtofhijnfbilieaaGreat.Bk
namespace Go.Proofs.YtofhijnfbilieaaGreat.Bk
open Go.RowKit
open Ml (Mg may msgV)
set_option linter.unusedVariables false
set_option linter.unusedSimpArgs false
set_option maxRecDepth 20000

variable {dB sB mB n : Nat} {d : M.Dv}

set_option maxHeartbeats 4000000 in
theorem take_store (w : World) {tB bl f : Nat} {K : Nat → Nat} {Q : Cs} (h : ST w dB sB mB n d tB bl f K Q) (m : Mg) (hk : m.kind = 10) (hm : may m = true) (hE : admE n f d Q m.epoch = 0) :
    Calls Tryz.prog 10 #[.pointer (some ⟨tB, 0, none⟩), msgV m] w fun e w' =>
      e = .returned (.tuple #[msgV (if stoE n f bl (admD n f d Q m.epoch) (admC n f d Q m.epoch) m = 30 then Ml.nil else { ans0 m with e := stoE n f bl (admD n f d Q m.epoch) (admC n f d Q m.epoch) m }), .bool (!decide (stoE n f bl (admD n f d Q m.epoch) (admC n f d Q m.epoch) m = 30))]) ∧
      ST w' dB sB mB n (stoD n f bl (admD n f d Q m.epoch) (admC n f d Q m.epoch) m) tB bl f K (stoC n f bl (admD n f d Q m.epoch) (admC n f d Q m.epoch) m) ∧ But (ours dB sB mB bl K) w w' := by
  have HS := Lib.hid h
  have HMy := Lib.hid (Ml.may_any ((w.alloc (.cells m.cells 37)).alloc (.cells Ml.nil.cells 37)) m)
  rw [hm] at HMy
  have HAn := Lib.hid (fun w' => answer_any w' m)
  have hep : 0 ≤ m.epoch ∧ m.epoch ≤ big := ((Ml.may_iff m).1 hm).2.1
  have HAd : Hid (∀ w', ST w' dB sB mB n d tB bl f K Q → Calls Tryz.prog 31 #[.pointer (some ⟨tB, 0, none⟩), .int .i64 m.epoch] w' fun e w'' => e = .returned (.int .i64 0) ∧ ST w'' dB sB mB n (admD n f d Q m.epoch) tB bl f K (admC n f d Q m.epoch) ∧ But (ours dB sB mB bl K) w' w'') := Lib.hid fun w' h => by rw [← hE]; exact admit_any w' h m.epoch hep
  have HI : Hid (∀ b, w.heap.size ≤ b → b ∉ ours dB sB mB bl K) := Lib.hid fun b hb hx => by have := h.ours_lt.2 b hx; omega
  have HI2 : Hid (∀ b, w.heap.size ≤ b → ∀ x ∈ [b], x ≠ tB ∧ x ∉ ours dB sB mB bl K) := Lib.hid fun b hb x hx => by
    simp only [List.mem_singleton] at hx
    subst hx
    exact ⟨by have := h.ours_lt.1; omega, HI.out x hb⟩
  have HSo : Hid (∀ w', ST w' dB sB mB n (admD n f d Q m.epoch) tB bl f K (admC n f d Q m.epoch) → Calls Tryz.prog 33 #[.pointer (some ⟨tB, 0, none⟩), msgV m] w' fun e w'' => e = .returned (.int .i64 (stoE n f bl (admD n f d Q m.epoch) (admC n f d Q m.epoch) m)) ∧ ST w'' dB sB mB n (stoD n f bl (admD n f d Q m.epoch) (admC n f d Q m.epoch) m) tB bl f K (stoC n f bl (admD n f d Q m.epoch) (admC n f d Q m.epoch) m) ∧ But (ours dB sB mB bl K) w' w'') := Lib.hid fun w' h => store_any w' h m hm
  generalize stoE n f bl (admD n f d Q m.epoch) (admC n f d Q m.epoch) m = E at *
  generalize stoD n f bl (admD n f d Q m.epoch) (admC n f d Q m.epoch) m = D5 at *
  generalize stoC n f bl (admD n f d Q m.epoch) (admC n f d Q m.epoch) m = Q5 at *
  generalize admD n f d Q m.epoch = D at *
  generalize admC n f d Q m.epoch = Q2 at *
  have HX := Lib.hid (fun w1 w2 => @tak_start w m w1 w2)
  have HX0 := Lib.hid (tak_boxes w m).1
  generalize ha : ans0 m = a at *
  have hka : a.kind = a.kind := rfl
  obtain ⟨kind, epoch, seq, nn, block, client, e, t0, t1, t2, t3, data, row⟩ := m
  simp only at hk
  subst hk
  obtain ⟨akind, aepoch, aseq, ann, ablock, aclient, ae, at0, at1, at2, at3, adata, arow⟩ := a
  simp only [msgV, Ml.Mg.cells, Ml.nil] at HMy HAn HX HX0 HAd ⊢
  clear h hm hep ha hka hE
  by_cases h30 : E = 30
  case' pos =>
    have h30' : (E == 30) = true := by rw [beq_iff_eq]; exact h30
    rw [if_pos h30, decide_eq_true h30]
  case' neg =>
    have h30' : (E == 30) = false := by rw [beq_eq_false_iff_ne]; exact h30
    rw [if_neg h30, decide_eq_false h30]
  all_goals
    clear h30
    simp only [Bool.not_true, Bool.not_false]
    go_enter Tryz.func10, Tryz.ntmps10
    go_upto_region 6 with (first
      | (go_at_call 29; with_reducible refine HMy.out.mono ?_; rintro e1 w1 ⟨rfl, hb1⟩
         have HB1 := Lib.hid hb1
         have HM1 := Lib.hid (HX0.out.below hb1 HX0.out.lt)
         obtain ⟨c0, c1, c2, c3, c4, c5, c6, c7, c8, c9, c10, c11, c12⟩ := HM1.out.cells
         clear hb1)
      | (go_at_call 30; refine (HAn.out _).mono ?_; rintro e2 w2 ⟨rfl, hb2⟩
         have H2 := Lib.hid (HX.out _ _ HB1.out hb2 ⟨akind, aepoch, aseq, ann, ablock, aclient, ae, at0, at1, at2, at3, adata, arow⟩)
         clear hb2 c0 c1 c2 c3 c4 c5 c6 c7 c8 c9 c10 c11 c12
         have x1 := H2.out.1.cells.2.1)
      | (go_at_call 31; refine (HAd.out _ (HS.out.below H2.out.2.2.2.1)).mono ?_; rintro e3 w3 ⟨rfl, hs3, hb3⟩
         have HS3 := Lib.hid hs3
         have HB3 := Lib.hid (((But.of_below H2.out.2.2.2.1).mono (by simp)).trans hb3)
         have HA3 := Lib.hid (MB.but H2.out.2.2.1 hb3 (HI.out _ (by have := H2.out.2.2.2.2; omega)))
         have HZ3 := Lib.hid (MB.but H2.out.2.1 hb3 (HI.out _ (Nat.le_succ _)))
         have HM3 := Lib.hid (MB.but H2.out.1 hb3 (HI.out _ (Nat.le_refl _)))
         have y6 := HA3.out.cells.2.2.2.2.2.2.1
         have yf := HA3.out.fz 6
         clear hs3 hb3 x1))
    have hg2 := H2.out.2.2.2.2
    have HA4 := Lib.hid (mb_e HA3.out 0)
    have HM4 := Lib.hid (MB.other HM3.out (p := ⟨w2.heap.size, 6, none⟩) (by show w2.heap.size ≠ w.heap.size; omega) (.int .i64 0))
    have HZ4 := Lib.hid (MB.other HZ3.out (p := ⟨w2.heap.size, 6, none⟩) (by show w2.heap.size ≠ w.heap.size + 1; omega) (.int .i64 0))
    have HS4 := Lib.hid (HS3.out.but ((But.refl [w2.heap.size] w3).set (p := ⟨w2.heap.size, 6, none⟩) (.int .i64 0) (.inl (by simp))) (HI2.out _ (by omega)))
    have HB4 := Lib.hid (HB3.out.set (p := ⟨w2.heap.size, 6, none⟩) (.int .i64 0) (.inr (by show w.heap.size ≤ w2.heap.size; omega)))
    clear y6 yf HA3 HZ3 HS3 HB3 HM3 H2 HMy HAn HAd HX HX0
    generalize w3.setCell ⟨w2.heap.size, 6, none⟩ (.int .i64 0) = w4 at *
    obtain ⟨m0, m1, m2, m3, m4, m5, m6, m7, m8, m9, m10, m11, m12⟩ := HM4.out.cells
    have c6 := HA4.out.cells.2.2.2.2.2.2.1
    simp only at m0 m1 m2 m3 m4 m5 m6 m7 m8 m9 m10 m11 m12 c6
    go_upto_region 9 with (first
      | (go_at_call 33; refine (HSo.out _ HS4.out).mono ?_; rintro e5 w5 ⟨rfl, hs5, hb5⟩
         have HA5 := Lib.hid (MB.but HA4.out hb5 (HI.out _ (by omega)))
         have HZ5 := Lib.hid (MB.but HZ4.out hb5 (HI.out _ (Nat.le_succ _)))
         have HS5 := Lib.hid hs5
         have HB5 := Lib.hid (HB4.out.trans hb5)
         have y6 := HA5.out.cells.2.2.2.2.2.2.1
         have yf := HA5.out.fz 6
         simp only at y6
         clear hb5 hs5 m0 m1 m2 m3 m4 m5 m6 m7 m8 m9 m10 m11 m12))
    have HA6 := Lib.hid (mb_e HA5.out E)
    have HZ6 := Lib.hid (MB.other HZ5.out (p := ⟨w2.heap.size, 6, none⟩) (by show w2.heap.size ≠ w.heap.size + 1; omega) (.int .i64 E))
    have HS6 := Lib.hid (HS5.out.but ((But.refl [w2.heap.size] w5).set (p := ⟨w2.heap.size, 6, none⟩) (.int .i64 E) (.inl (by simp))) (HI2.out _ (by omega)))
    have HB6 := Lib.hid (HB5.out.set (p := ⟨w2.heap.size, 6, none⟩) (.int .i64 E) (.inr (by show w.heap.size ≤ w2.heap.size; omega)))
    clear y6 yf HA5 HZ5 HS5 HB5 HA4 HZ4 HS4 HB4 HM4 c6
    generalize w5.setCell ⟨w2.heap.size, 6, none⟩ (.int .i64 E) = w4' at *
    obtain ⟨c0, c1, c2, c3, c4, c5, c6, c7, c8, c9, c10, c11, c12⟩ := HA6.out.cells
    obtain ⟨z0, z1, z2, z3, z4, z5, z6, z7, z8, z9, z10, z11, z12⟩ := HZ6.out.cells
    have zf := HZ6.out.fz
    simp only at c0 c1 c2 c3 c4 c5 c6 c7 c8 c9 c10 c11 c12 z0 z1 z2 z3 z4 z5 z6 z7 z8 z9 z10 z11 z12
    go_wp2
    first
      | exact ret_msgT (m := ⟨0, 0, 0, 0, 0, 0, 0, 0, 0, 0, 0, ⟨#[]⟩, ⟨#[]⟩⟩) (v := .bool false) Tryz.results10 rfl rfl rfl (Ml.mb_set' HZ6.out) ⟨rfl, HS6.out.but ((But.refl [w.heap.size + 1] w4').sets (w.heap.size + 1) 0 (Ml.Mg.cells ⟨0, 0, 0, 0, 0, 0, 0, 0, 0, 0, 0, ⟨#[]⟩, ⟨#[]⟩⟩).toList (.inl (by simp))) (HI2.out _ (Nat.le_succ _)), HB6.out.sets (w.heap.size + 1) 0 (Ml.Mg.cells ⟨0, 0, 0, 0, 0, 0, 0, 0, 0, 0, 0, ⟨#[]⟩, ⟨#[]⟩⟩).toList (.inr (Nat.le_succ _))⟩
      | exact ret_msgT (m := ⟨akind, aepoch, aseq, ann, ablock, aclient, E, at0, at1, at2, at3, adata, arow⟩) (v := .bool true) Tryz.results10 rfl rfl rfl (Ml.mb_set' HZ6.out) ⟨rfl, HS6.out.but ((But.refl [w.heap.size + 1] w4').sets (w.heap.size + 1) 0 (Ml.Mg.cells ⟨akind, aepoch, aseq, ann, ablock, aclient, E, at0, at1, at2, at3, adata, arow⟩).toList (.inl (by simp))) (HI2.out _ (Nat.le_succ _)), HB6.out.sets (w.heap.size + 1) 0 (Ml.Mg.cells ⟨akind, aepoch, aseq, ann, ablock, aclient, E, at0, at1, at2, at3, adata, arow⟩).toList (.inr (Nat.le_succ _))⟩
end Go.Proofs.YtofhijnfbilieaaGreat.Bk
namespace Go.Proofs.YtofhijnfbilieaaGreat.Bk
open Go.RowKit
open Ml (Mg may msgV)
set_option linter.unusedVariables false
set_option linter.unusedSimpArgs false
set_option maxRecDepth 20000

variable {dB sB mB n : Nat} {d : M.Dv}

theorem can_iff (m : Mg) : can m = true ↔ (m.kind = 10 ∨ m.kind = 12) ∧ may m = true := by
  unfold can
  simp
theorem take_any (w : World) {tB bl f : Nat} {K : Nat → Nat} {Q : Cs} (h : ST w dB sB mB n d tB bl f K Q) (m : Mg) :
    Calls Tryz.prog 10 #[.pointer (some ⟨tB, 0, none⟩), msgV m] w fun e w' =>
      e = .returned (.tuple #[msgV (takA n f bl d Q m), .bool (takI n f bl d Q m)]) ∧ ST w' dB sB mB n (takD n f bl d Q m) tB bl f K (takC n f bl d Q m) ∧ But (ours dB sB mB bl K) w w' := by
  cases hc : can m with
  | false =>
    have e1 : takI n f bl d Q m = false := by unfold takI; rw [hc]; rfl
    have e2 : takA n f bl d Q m = Ml.nil := by unfold takA; rw [if_pos e1]
    have e3 : takD n f bl d Q m = d := by unfold takD; rw [if_pos hc]
    have e4 : takC n f bl d Q m = Q := by unfold takC; rw [if_pos hc]
    rw [e1, e2, e3, e4]
    have hcc : ¬ ((m.kind = 10 ∨ m.kind = 12) ∧ may m = true) := by rw [← can_iff, hc]; simp
    have key : Calls Tryz.prog 10 #[.pointer (some ⟨tB, 0, none⟩), msgV m] w fun e w' => e = .returned (.tuple #[msgV Ml.nil, .bool false]) ∧ Below w.heap.size w w' := by
      by_cases hk : m.kind = 10 ∨ m.kind = 12
      · exact take_may w tB m hk (by cases hm : may m with
          | false => rfl
          | true => exact absurd ⟨hk, hm⟩ hcc)
      · exact take_kind w tB m (fun h => hk (.inl h)) (fun h => hk (.inr h))
    refine key.mono ?_
    rintro e w' ⟨rfl, hb⟩
    exact ⟨rfl, h.below hb, (But.of_below hb).mono (by simp)⟩
  | true =>
    obtain ⟨hk, hm⟩ := (can_iff m).1 hc
    by_cases hE : admE n f d Q m.epoch = 0
    · rcases hk with hk | hk
      · have g : takE n f bl d Q m = stoE n f bl (admD n f d Q m.epoch) (admC n f d Q m.epoch) m := by unfold takE; rw [if_neg (by simp [hE]), if_neg (by omega)]
        have e1 : takI n f bl d Q m = !decide (stoE n f bl (admD n f d Q m.epoch) (admC n f d Q m.epoch) m = 30) := by unfold takI; rw [hc, g]; simp
        have e3 : takD n f bl d Q m = stoD n f bl (admD n f d Q m.epoch) (admC n f d Q m.epoch) m := by unfold takD; rw [if_neg (by simp [hc]), if_neg (by simp [hE]; omega)]
        have e4 : takC n f bl d Q m = stoC n f bl (admD n f d Q m.epoch) (admC n f d Q m.epoch) m := by unfold takC; rw [if_neg (by simp [hc]), if_neg (by simp [hE]; omega)]
        have e2 : takA n f bl d Q m = if stoE n f bl (admD n f d Q m.epoch) (admC n f d Q m.epoch) m = 30 then Ml.nil else { ans0 m with e := stoE n f bl (admD n f d Q m.epoch) (admC n f d Q m.epoch) m } := by
          unfold takA
          rw [e1]
          by_cases h30 : stoE n f bl (admD n f d Q m.epoch) (admC n f d Q m.epoch) m = 30
          · rw [if_pos h30, decide_eq_true h30, if_pos (by rfl)]
          · rw [if_neg h30, decide_eq_false h30, if_neg (by simp), if_neg (by omega), g]
            unfold ans0
            rw [if_neg (by omega), hk]
            rfl
        rw [e1, e2, e3, e4]
        exact take_store w h m hk hm hE
      · have g : takE n f bl d Q m = loaE bl m.block := by unfold takE; rw [if_neg (by simp [hE]), if_pos hk]
        have hl : ¬ loaE bl m.block = 30 := by unfold loaE; split <;> omega
        have e1 : takI n f bl d Q m = true := by unfold takI; rw [hc, g]; simp [hl]
        have e3 : takD n f bl d Q m = admD n f d Q m.epoch := by unfold takD; rw [if_neg (by simp [hc]), if_pos (.inr hk)]
        have e4 : takC n f bl d Q m = admC n f d Q m.epoch := by unfold takC; rw [if_neg (by simp [hc]), if_pos (.inr hk)]
        have e2 : takA n f bl d Q m = { ans0 m with e := loaE bl m.block, t0 := (loaT bl (admC n f d Q m.epoch) m.block).a, t1 := (loaT bl (admC n f d Q m.epoch) m.block).b, t2 := (loaT bl (admC n f d Q m.epoch) m.block).c, t3 := (loaT bl (admC n f d Q m.epoch) m.block).d, data := loaS bl (admC n f d Q m.epoch) m.block } := by
          unfold takA
          rw [e1, if_neg (by simp), if_pos ⟨hk, hE⟩, g]
          unfold ans0
          rw [if_pos hk]
        rw [e1, e2, e3, e4]
        exact take_load w h m hk hm hE
    · have g : takE n f bl d Q m = admE n f d Q m.epoch := by unfold takE; rw [if_pos hE]
      have e1 : takI n f bl d Q m = !decide (admE n f d Q m.epoch = 30) := by unfold takI; rw [hc, g]; simp
      have e3 : takD n f bl d Q m = admD n f d Q m.epoch := by unfold takD; rw [if_neg (by simp [hc]), if_pos (.inl hE)]
      have e4 : takC n f bl d Q m = admC n f d Q m.epoch := by unfold takC; rw [if_neg (by simp [hc]), if_pos (.inl hE)]
      have e2 : takA n f bl d Q m = if admE n f d Q m.epoch = 30 then Ml.nil else { ans0 m with e := admE n f d Q m.epoch } := by
        unfold takA
        rw [e1]
        by_cases h30 : admE n f d Q m.epoch = 30
        · rw [if_pos h30, decide_eq_true h30, if_pos (by rfl)]
        · rw [if_neg h30, decide_eq_false h30, if_neg (by simp), if_neg (by intro h; exact hE h.2), g]
          unfold ans0
          rcases hk with hk | hk <;> rw [hk] <;> rfl
      rw [e1, e2, e3, e4]
      exact take_err w h m hk hm hE

/-- the token that the store tells -/
theorem tok_any (w : World) {tB bl f : Nat} {K : Nat → Nat} {Q : Cs} (h : ST w dB sB mB n d tB bl f K Q) :
    Calls Tryz.prog 21 #[.pointer (some ⟨tB, 0, none⟩)] w fun e w' => e = .returned (.int .i64 (token Q)) ∧ Below w.heap.size w w' :=
  token_any w h.at_ (h.cel 0 (Nat.zero_le _)) (h.tx 0 (Nat.zero_le _))
end Go.Proofs.YtofhijnfbilieaaGreat.Bk
