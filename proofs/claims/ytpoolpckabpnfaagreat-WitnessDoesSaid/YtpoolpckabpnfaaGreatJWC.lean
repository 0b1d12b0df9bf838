/-
  A message is taken, and answered.
  A message is taken: every case.
  A witness is opened.
  Calls whose answers the document fixes; what a message makes of a witness where nothing fails.
-/
import Derived.Test.YtpoolpckabpnfaaGreatJWB
import Derived.Test.YtpoolpckabpnfaaGreatMlEnc
import Derived.Test.YtpoolpckabpnfaaGreatJWA
namespace Go.Proofs.YtpoolpckabpnfaaGreat.Wt
open Go.RowKit
open Ml (Mg may msgV MB)
set_option linter.unusedVariables false
set_option linter.unusedSimpArgs false
set_option maxRecDepth 20000

variable {dB sB mB n : Nat} {d : M.Dv}

theorem ret_msg1 {fn : Func} {j : Nat} (hres : fn.results = #[.cell j 37]) {R : Ending → World → Prop} {a : Act} {w : World} {g : Nat} {m : Mg} (h2 : a.tmps.getD j undef = .pointer (some ⟨g, 0, none⟩)) (hd : a.defers = []) (h : MB w g m)
    (hR : R (.returned (msgV m)) w) : bodyPost Tryz.prog fn R .ret a w := by
  obtain ⟨k0, k1, k2, k3, k4, k5, k6, k7, k8, k9, k10, k11, k12⟩ := h.cells
  simp only [Array.getD_eq_getD_getElem?] at h2
  refine bodyPost_ret_by ?_ hd hR
  simp [results, hres, h2, go_sem, k0, k1, k2, k3, k4, k5, k6, k7, k8, k9, k10, k11, k12, msgV, Ml.Mg.cells]
theorem ret_msgT {fn : Func} (hres : fn.results = #[.cell 6 37, .tmp 7]) {R : Ending → World → Prop} {a : Act} {w : World} {g : Nat} {m : Mg} {v : Value} (h2 : a.tmps.getD 6 undef = .pointer (some ⟨g, 0, none⟩)) (h3 : a.tmps.getD 7 undef = v) (hd : a.defers = []) (h : MB w g m)
    (hR : R (.returned (.tuple #[msgV m, v])) w) : bodyPost Tryz.prog fn R .ret a w := by
  obtain ⟨k0, k1, k2, k3, k4, k5, k6, k7, k8, k9, k10, k11, k12⟩ := h.cells
  simp only [Array.getD_eq_getD_getElem?] at h2 h3
  refine bodyPost_ret_by ?_ hd hR
  simp [results, hres, h2, h3, go_sem, k0, k1, k2, k3, k4, k5, k6, k7, k8, k9, k10, k11, k12, msgV, Ml.Mg.cells]
theorem mb_but {w w' : World} {g : Nat} {m : Mg} (h : MB w g m) {l : List Nat} (hb : But l w w') (hn : g ∉ l) : MB w' g m := Bo.but (cs := m.cells) h hb hn
theorem mb_new2 (w : World) (cs : Array Value) (t : TypeId) (m : Mg) : MB ((w.alloc (.cells cs t)).alloc (.cells m.cells 37)) (w.heap.size + 1) m := by
  have := MB.new (w.alloc (.cells cs t)) m
  rwa [show (w.alloc (.cells cs t)).heap.size = w.heap.size + 1 by simp] at this
/-- the boxes of a message, and of what is answered -/
theorem tak_boxes (w : World) (x : Mg) : MB ((w.alloc (.cells x.cells 37)).alloc (.cells Ml.nil.cells 37)) w.heap.size x ∧ MB ((w.alloc (.cells x.cells 37)).alloc (.cells Ml.nil.cells 37)) (w.heap.size + 1) Ml.nil ∧
    Below w.heap.size w ((w.alloc (.cells x.cells 37)).alloc (.cells Ml.nil.cells 37)) :=
  ⟨(MB.new w x).below ((Below.refl (w.heap.size + 1) _).alloc (by simp) _) (by omega), mb_new2 w _ _ _, ((Below.refl _ _).alloc (Nat.le_refl _) _).alloc (by simp) _⟩


theorem doer1 (w : World) (p : Addr) : Calls Tryz.prog 32 #[.pointer (some p), .int .i64 1] w fun e w' => e = .returned (.func (.func 54) #[.pointer (some p)] #[]) ∧ w = w' := by
  have hmf : ∀ (fn : Fn) (first cap : Array Value) (w : World), (Instr.makeFunc fn first cap).run Tryz.prog w = .ok (.func fn first cap) w := fun _ _ _ _ => rfl
  go_enter Tryz.func32, Tryz.ntmps32
  go_wp2
  go_ret
  exact ⟨rfl, rfl⟩

theorem doer3 (w : World) (p : Addr) : Calls Tryz.prog 32 #[.pointer (some p), .int .i64 3] w fun e w' => e = .returned (.func (.func 55) #[.pointer (some p)] #[]) ∧ w = w' := by
  have hmf : ∀ (fn : Fn) (first cap : Array Value) (w : World), (Instr.makeFunc fn first cap).run Tryz.prog w = .ok (.func fn first cap) w := fun _ _ _ _ => rfl
  go_enter Tryz.func32, Tryz.ntmps32
  go_wp2
  go_ret
  exact ⟨rfl, rfl⟩

theorem doer4 (w : World) (p : Addr) : Calls Tryz.prog 32 #[.pointer (some p), .int .i64 4] w fun e w' => e = .returned (.func (.func 56) #[.pointer (some p)] #[]) ∧ w = w' := by
  have hmf : ∀ (fn : Fn) (first cap : Array Value) (w : World), (Instr.makeFunc fn first cap).run Tryz.prog w = .ok (.func fn first cap) w := fun _ _ _ _ => rfl
  go_enter Tryz.func32, Tryz.ntmps32
  go_wp2
  go_ret
  exact ⟨rfl, rfl⟩

theorem doer_no (w : World) (p : Addr) {k : Int} (h : kindOk k = false) : Calls Tryz.prog 32 #[.pointer (some p), .int .i64 k] w fun e w' => e = .returned Value.nilFunc ∧ w = w' := by
  have h0 : (k == 1) = false ∧ (k == 3) = false ∧ (k == 4) = false := by simpa [kindOk] using h
  obtain ⟨h1, h2, h3⟩ := h0
  clear h
  go_enter Tryz.func32, Tryz.ntmps32
  go_wp2
  go_ret
  exact ⟨rfl, rfl⟩
theorem func_nil (w : World) (f : Nat) (p : Addr) : (binOp .eql 85 (.func (.func f) #[.pointer (some p)] #[]) Value.nilFunc).run Tryz.prog w = .ok (.bool false) w := by kernel_rfl
theorem nil_nil (w : World) : (binOp .eql 85 Value.nilFunc Value.nilFunc).run Tryz.prog w = .ok (.bool true) w := by kernel_rfl


set_option maxHeartbeats 4000000 in
theorem answer_any (w : World) {tB cB a b : Nat} {c : M.Cl} {L W : Int} (h : WS w dB sB mB n d tB cB a b c L W) (m : Mg) (E : Int) :
    Calls Tryz.prog 35 #[.pointer (some ⟨tB, 0, none⟩), msgV m, .int .i64 E] w fun e w' => e = .returned (msgV (ansA (fx c.text) m E)) ∧ Below w.heap.size w w' := by
  have HX := Lib.hid (tak_boxes w m)
  have HSt := Lib.hid (state_any _ (h.below HX.out.2.2))
  clear h
  generalize fx c.text = x at *
  obtain ⟨ep, ho, ma, ch⟩ := x
  obtain ⟨kind, epoch, seq, nn, block, client, e0, t0, t1, t2, t3, data, row⟩ := m
  by_cases hk : kind = 1
  case' pos =>
    subst hk
    have ea : ansA ⟨ep, ho, ma, ch⟩ ⟨1, epoch, seq, nn, block, client, e0, t0, t1, t2, t3, data, row⟩ E = ⟨2, ep, ma, nn, -1, ho, E, 0, 0, 0, 0, ⟨#[]⟩, ⟨#[]⟩⟩ := rfl
  case' neg =>
    have hkb : (kind == 1) = false := by rw [beq_eq_false_iff_ne]; exact hk
    have ea : ansA ⟨ep, ho, ma, ch⟩ ⟨kind, epoch, seq, nn, block, client, e0, t0, t1, t2, t3, data, row⟩ E = ⟨kind, ep, ma, nn, -1, ho, E, 0, 0, 0, 0, ⟨#[]⟩, ⟨#[]⟩⟩ := by unfold ansA ansK; simp only; rw [if_neg hk]
  all_goals
    rw [ea]
    clear ea
    simp only [fxV, msgV, Mg.cells, Ml.nil] at *
    go_enter Tryz.func35, Tryz.ntmps35
    go_wp2_with (first
      | (go_at_call 48; with_reducible refine HSt.out.mono ?_; rintro e1 w1 ⟨rfl, hb1⟩
         have A1 := hb1.alloc hb1.size (.cells #[.int .i64 ep, .int .i64 ho, .int .i64 ma, .int .i64 ch] 105)
         have HB1 := Lib.hid (HX.out.2.2.trans (A1.mono HX.out.2.2.size))
         have XM := HX.out.1.below A1 HX.out.1.lt
         have HZ := Lib.hid (HX.out.2.1.below A1 HX.out.2.1.lt)
         have y3 := XM.cell 3
         obtain ⟨z0, z1, z2, z3, z4, z5, z6, z7, z8, z9, z10, z11, z12⟩ := HZ.out.cells
         have zf := HZ.out.fz
         simp only [Mg.cells, List.getElem?_toArray, List.getElem?_cons_zero, List.getElem?_cons_succ] at y3
         clear hb1 A1 XM))
    first
      | exact ret_msg1 (m := ⟨2, ep, ma, nn, -1, ho, E, 0, 0, 0, 0, ⟨#[]⟩, ⟨#[]⟩⟩) Tryz.results35 rfl rfl (Ml.mb_set' HZ.out) ⟨rfl, Ml.sets_below (o := 0) HB1.out (Mg.cells ⟨2, ep, ma, nn, -1, ho, E, 0, 0, 0, 0, ⟨#[]⟩, ⟨#[]⟩⟩).toList (Nat.le_succ _)⟩
      | exact ret_msg1 (m := ⟨kind, ep, ma, nn, -1, ho, E, 0, 0, 0, 0, ⟨#[]⟩, ⟨#[]⟩⟩) Tryz.results35 rfl rfl (Ml.mb_set' HZ.out) ⟨rfl, Ml.sets_below (o := 0) HB1.out (Mg.cells ⟨kind, ep, ma, nn, -1, ho, E, 0, 0, 0, 0, ⟨#[]⟩, ⟨#[]⟩⟩).toList (Nat.le_succ _)⟩


set_option maxHeartbeats 4000000 in
theorem take_kind (w : World) (tB : Nat) (fr : Int) (m : Mg) (hk : kindOk m.kind = false) :
    Calls Tryz.prog 10 #[.pointer (some ⟨tB, 0, none⟩), .int .i64 fr, msgV m] w fun e w' => e = .returned (.tuple #[msgV Ml.nil, .bool false]) ∧ Below w.heap.size w w' := by
  have HX := Lib.hid (tak_boxes w m)
  have HDo := Lib.hid (fun w' => doer_no w' ⟨tB, 0, none⟩ hk)
  have nn0 := nil_nil
  clear hk
  obtain ⟨kind, epoch, seq, nn, block, client, e0, t0, t1, t2, t3, data, row⟩ := m
  have HZ := Lib.hid HX.out.2.1
  have HB := Lib.hid HX.out.2.2
  obtain ⟨z0, z1, z2, z3, z4, z5, z6, z7, z8, z9, z10, z11, z12⟩ := HX.out.2.1.cells
  have zf := HX.out.2.1.fz
  simp only [msgV, Mg.cells, Ml.nil] at *
  go_enter Tryz.func10, Tryz.ntmps10
  go_wp2_with (go_at_call 32; with_reducible refine (HDo.out _).mono ?_; rintro e1 w1 ⟨rfl, rfl⟩)
  exact ret_msgT (m := Ml.nil) Tryz.results10 rfl rfl rfl HZ.out ⟨rfl, HB.out⟩


set_option maxHeartbeats 4000000 in
theorem take_node1 (w : World) (tB : Nat) (fr : Int) (m : Mg) (hk : m.kind = 1) (hn : isNode fr = false) :
    Calls Tryz.prog 10 #[.pointer (some ⟨tB, 0, none⟩), .int .i64 fr, msgV m] w fun e w' => e = .returned (.tuple #[msgV Ml.nil, .bool false]) ∧ Below w.heap.size w w' := by
  have HX := Lib.hid (tak_boxes w m)
  have HDo := Lib.hid (fun w' => doer1 w' ⟨tB, 0, none⟩)
  have HNo := Lib.hid (fun w' => node_any fr w')
  have fn0 := func_nil
  rw [hn] at HNo
  clear hn
  obtain ⟨kind, epoch, seq, nn, block, client, e0, t0, t1, t2, t3, data, row⟩ := m
  simp only at hk
  subst hk
  have HZ := Lib.hid HX.out.2.1
  have HB := Lib.hid HX.out.2.2
  obtain ⟨z0, z1, z2, z3, z4, z5, z6, z7, z8, z9, z10, z11, z12⟩ := HX.out.2.1.cells
  have zf := HX.out.2.1.fz
  simp only [msgV, Mg.cells, Ml.nil] at *
  go_enter Tryz.func10, Tryz.ntmps10
  go_wp2_with (first
    | (go_at_call 32; with_reducible refine (HDo.out _).mono ?_; rintro e1 w1 ⟨rfl, rfl⟩)
    | (go_at_call 33; with_reducible refine (HNo.out _).mono ?_; rintro e1 w1 ⟨rfl, rfl⟩))
  exact ret_msgT (m := Ml.nil) Tryz.results10 rfl rfl rfl HZ.out ⟨rfl, HB.out⟩


set_option maxHeartbeats 4000000 in
theorem take_may1 (w : World) (tB : Nat) (fr : Int) (m : Mg) (hk : m.kind = 1) (hn : isNode fr = true) (hm : may m = false) :
    Calls Tryz.prog 10 #[.pointer (some ⟨tB, 0, none⟩), .int .i64 fr, msgV m] w fun e w' => e = .returned (.tuple #[msgV Ml.nil, .bool false]) ∧ Below w.heap.size w w' := by
  have HX := Lib.hid (tak_boxes w m)
  have HDo := Lib.hid (fun w' => doer1 w' ⟨tB, 0, none⟩)
  have HNo := Lib.hid (fun w' => node_any fr w')
  have fn0 := func_nil
  have HMy := Lib.hid (Ml.may_any ((w.alloc (.cells m.cells 37)).alloc (.cells Ml.nil.cells 37)) m)
  rw [hm] at HMy
  rw [hn] at HNo
  clear hn hm
  obtain ⟨kind, epoch, seq, nn, block, client, e0, t0, t1, t2, t3, data, row⟩ := m
  simp only at hk
  subst hk
  have HZ := Lib.hid HX.out.2.1
  have HB := Lib.hid HX.out.2.2
  simp only [msgV, Mg.cells, Ml.nil] at *
  go_enter Tryz.func10, Tryz.ntmps10
  go_wp2_with (first
    | (go_at_call 32; with_reducible refine (HDo.out _).mono ?_; rintro e1 w1 ⟨rfl, rfl⟩)
    | (go_at_call 33; with_reducible refine (HNo.out _).mono ?_; rintro e1 w1 ⟨rfl, rfl⟩)
    | (go_at_call 34; with_reducible refine HMy.out.mono ?_; rintro e1 w1 ⟨rfl, hb1⟩
       have HB1 := Lib.hid (HB.out.trans (hb1.mono HB.out.size))
       have HZ1 := Lib.hid (HZ.out.below hb1 HZ.out.lt)
       obtain ⟨z0, z1, z2, z3, z4, z5, z6, z7, z8, z9, z10, z11, z12⟩ := HZ1.out.cells
       have zf := HZ1.out.fz
       clear hb1))
  exact ret_msgT (m := Ml.nil) Tryz.results10 rfl rfl rfl (Ml.mb_set' HZ1.out) ⟨rfl, Ml.sets_below (o := 0) HB1.out Ml.nil.cells.toList (Nat.le_succ _)⟩


set_option maxHeartbeats 4000000 in
theorem take_no1 (w : World) {tB cB a b : Nat} {c C2 : M.Cl} {L L2 W : Int} {D : M.Dv} {E : Int} (h : WS w dB sB mB n d tB cB a b c L W) (fr : Int) (m : Mg) (hk : m.kind = 1) (hn : isNode fr = true) (hm : may m = true)
    (hdo : ∀ w', WS w' dB sB mB n d tB cB a b c L W → Calls Tryz.prog 54 #[.pointer (some ⟨tB, 0, none⟩), .int .i64 fr, msgV m] w' fun e w'' => e = .returned (.int .i64 E) ∧ WS w'' dB sB mB n D tB cB a b C2 L2 W ∧ But (ours dB sB mB cB tB) w' w'') (hE : E = 30) :
    Calls Tryz.prog 10 #[.pointer (some ⟨tB, 0, none⟩), .int .i64 fr, msgV m] w fun e w' => e = .returned (.tuple #[msgV Ml.nil, .bool false]) ∧ WS w' dB sB mB n D tB cB a b C2 L2 W ∧ But (ours dB sB mB cB tB) w w' := by
  have HX := Lib.hid (tak_boxes w m)
  have HDo := Lib.hid (fun w' => doer1 w' ⟨tB, 0, none⟩)
  have HNo := Lib.hid (fun w' => node_any fr w')
  have fn0 := func_nil
  have HMy := Lib.hid (Ml.may_any ((w.alloc (.cells m.cells 37)).alloc (.cells Ml.nil.cells 37)) m)
  rw [hm] at HMy
  rw [hn] at HNo
  have HS := Lib.hid h
  have HI : Hid (∀ b, w.heap.size ≤ b → b ∉ ours dB sB mB cB tB) := Lib.hid fun b hb => h.not_mem hb
  have HDd := Lib.hid hdo
  subst hE
  clear hn hm hdo h
  obtain ⟨kind, epoch, seq, nn, block, client, e0, t0, t1, t2, t3, data, row⟩ := m
  simp only at hk
  subst hk
  have HM := Lib.hid HX.out.1
  have HZ := Lib.hid HX.out.2.1
  have HB := Lib.hid HX.out.2.2
  simp only [msgV, Mg.cells, Ml.nil] at *
  go_enter Tryz.func10, Tryz.ntmps10
  go_wp2_with (first
    | (go_at_call 32; with_reducible refine (HDo.out _).mono ?_; rintro e1 w1 ⟨rfl, rfl⟩)
    | (go_at_call 33; with_reducible refine (HNo.out _).mono ?_; rintro e1 w1 ⟨rfl, rfl⟩)
    | (go_at_call 34; with_reducible refine HMy.out.mono ?_; rintro e1 w1 ⟨rfl, hb1⟩
       have HB1 := Lib.hid (HB.out.trans (hb1.mono HB.out.size))
       have HZ1 := Lib.hid (HZ.out.below hb1 HZ.out.lt)
       have HM1 := Lib.hid (HM.out.below hb1 HM.out.lt)
       have HS1 := Lib.hid (HS.out.below HB1.out)
       obtain ⟨c0, c1, c2, c3, c4, c5, c6, c7, c8, c9, c10, c11, c12⟩ := HM1.out.cells
       clear hb1)
    | (go_at_call 54; with_reducible refine (HDd.out _ HS1.out).mono ?_; rintro e2 w2 ⟨rfl, hs2, hb2⟩
       have HB2 : Hid (But (ours dB sB mB cB tB) w w2) := Lib.hid (((But.of_below HB1.out).mono (by simp)).trans hb2)
       have HS2 := Lib.hid hs2
       have HZ2 := Lib.hid (mb_but HZ1.out hb2 (HI.out _ (Nat.le_succ _)))
       have HM2 := Lib.hid (mb_but HM1.out hb2 (HI.out _ (Nat.le_refl _)))
       clear c0 c1 c2 c3 c4 c5 c6 c7 c8 c9 c10 c11 c12
       obtain ⟨c0, c1, c2, c3, c4, c5, c6, c7, c8, c9, c10, c11, c12⟩ := HM2.out.cells
       obtain ⟨z0, z1, z2, z3, z4, z5, z6, z7, z8, z9, z10, z11, z12⟩ := HZ2.out.cells
       have zf := HZ2.out.fz
       clear hs2 hb2))
  exact ret_msgT (m := ⟨0, 0, 0, 0, 0, 0, 0, 0, 0, 0, 0, ⟨#[]⟩, ⟨#[]⟩⟩) (v := .bool false) Tryz.results10 rfl rfl rfl (Ml.mb_set' HZ2.out) ⟨rfl, HS2.out.but ((But.refl [w.heap.size + 1] w2).sets (w.heap.size + 1) 0 (Mg.cells ⟨0, 0, 0, 0, 0, 0, 0, 0, 0, 0, 0, ⟨#[]⟩, ⟨#[]⟩⟩).toList (.inl (by simp))) (fun x hx => HI.out x (by simp at hx; omega)), HB2.out.sets (w.heap.size + 1) 0 (Mg.cells ⟨0, 0, 0, 0, 0, 0, 0, 0, 0, 0, 0, ⟨#[]⟩, ⟨#[]⟩⟩).toList (.inr (Nat.le_succ _))⟩


set_option maxHeartbeats 4000000 in
theorem take_yes1 (w : World) {tB cB a b : Nat} {c C2 : M.Cl} {L L2 W : Int} {D : M.Dv} {E : Int} (h : WS w dB sB mB n d tB cB a b c L W) (fr : Int) (m : Mg) (hk : m.kind = 1) (hn : isNode fr = true) (hm : may m = true)
    (hdo : ∀ w', WS w' dB sB mB n d tB cB a b c L W → Calls Tryz.prog 54 #[.pointer (some ⟨tB, 0, none⟩), .int .i64 fr, msgV m] w' fun e w'' => e = .returned (.int .i64 E) ∧ WS w'' dB sB mB n D tB cB a b C2 L2 W ∧ But (ours dB sB mB cB tB) w' w'') (hE : E ≠ 30) :
    Calls Tryz.prog 10 #[.pointer (some ⟨tB, 0, none⟩), .int .i64 fr, msgV m] w fun e w' => e = .returned (.tuple #[msgV (ansA (fx C2.text) m E), .bool true]) ∧ WS w' dB sB mB n D tB cB a b C2 L2 W ∧ But (ours dB sB mB cB tB) w w' := by
  have HX := Lib.hid (tak_boxes w m)
  have HDo := Lib.hid (fun w' => doer1 w' ⟨tB, 0, none⟩)
  have HNo := Lib.hid (fun w' => node_any fr w')
  have fn0 := func_nil
  have HMy := Lib.hid (Ml.may_any ((w.alloc (.cells m.cells 37)).alloc (.cells Ml.nil.cells 37)) m)
  rw [hm] at HMy
  rw [hn] at HNo
  have HS := Lib.hid h
  have HI : Hid (∀ b, w.heap.size ≤ b → b ∉ ours dB sB mB cB tB) := Lib.hid fun b hb => h.not_mem hb
  have HDd := Lib.hid hdo
  have HAn := Lib.hid (fun (w' : World) (h : WS w' dB sB mB n D tB cB a b C2 L2 W) => answer_any w' h m E)
  generalize hA : ansA (fx C2.text) m E = A at *
  have hE2 : (E == 30) = false := by rw [beq_eq_false_iff_ne]; exact hE
  clear hn hm hdo h hE hA
  obtain ⟨kind, epoch, seq, nn, block, client, e0, t0, t1, t2, t3, data, row⟩ := m
  obtain ⟨akind, aepoch, aseq, ann, ablock, aclient, ae, at0, at1, at2, at3, adata, arow⟩ := A
  simp only at hk
  subst hk
  have HM := Lib.hid HX.out.1
  have HZ := Lib.hid HX.out.2.1
  have HB := Lib.hid HX.out.2.2
  simp only [msgV, Mg.cells, Ml.nil] at *
  go_enter Tryz.func10, Tryz.ntmps10
  go_wp2_with (first
    | (go_at_call 32; with_reducible refine (HDo.out _).mono ?_; rintro e1 w1 ⟨rfl, rfl⟩)
    | (go_at_call 33; with_reducible refine (HNo.out _).mono ?_; rintro e1 w1 ⟨rfl, rfl⟩)
    | (go_at_call 34; with_reducible refine HMy.out.mono ?_; rintro e1 w1 ⟨rfl, hb1⟩
       have HB1 := Lib.hid (HB.out.trans (hb1.mono HB.out.size))
       have HZ1 := Lib.hid (HZ.out.below hb1 HZ.out.lt)
       have HM1 := Lib.hid (HM.out.below hb1 HM.out.lt)
       have HS1 := Lib.hid (HS.out.below HB1.out)
       obtain ⟨c0, c1, c2, c3, c4, c5, c6, c7, c8, c9, c10, c11, c12⟩ := HM1.out.cells
       clear hb1)
    | (go_at_call 54; with_reducible refine (HDd.out _ HS1.out).mono ?_; rintro e2 w2 ⟨rfl, hs2, hb2⟩
       have HB2 : Hid (But (ours dB sB mB cB tB) w w2) := Lib.hid (((But.of_below HB1.out).mono (by simp)).trans hb2)
       have HS2 := Lib.hid hs2
       have HZ2 := Lib.hid (mb_but HZ1.out hb2 (HI.out _ (Nat.le_succ _)))
       have HM2 := Lib.hid (mb_but HM1.out hb2 (HI.out _ (Nat.le_refl _)))
       clear c0 c1 c2 c3 c4 c5 c6 c7 c8 c9 c10 c11 c12
       obtain ⟨c0, c1, c2, c3, c4, c5, c6, c7, c8, c9, c10, c11, c12⟩ := HM2.out.cells
       obtain ⟨z0, z1, z2, z3, z4, z5, z6, z7, z8, z9, z10, z11, z12⟩ := HZ2.out.cells
       have zf := HZ2.out.fz
       clear hs2 hb2)
    | (go_at_call 35; with_reducible refine (HAn.out _ HS2.out).mono ?_; rintro e3 w3 ⟨rfl, hb3⟩
       have HB3 : Hid (But (ours dB sB mB cB tB) w w3) := Lib.hid (HB2.out.trans ((But.of_below hb3).mono (by simp)))
       have HS3 := Lib.hid (HS2.out.below hb3)
       have HZ3 := Lib.hid (HZ2.out.below hb3 HZ2.out.lt)
       clear z0 z1 z2 z3 z4 z5 z6 z7 z8 z9 z10 z11 z12 zf
       obtain ⟨z0, z1, z2, z3, z4, z5, z6, z7, z8, z9, z10, z11, z12⟩ := HZ3.out.cells
       have zf := HZ3.out.fz
       clear hb3))
  exact ret_msgT (m := ⟨akind, aepoch, aseq, ann, ablock, aclient, ae, at0, at1, at2, at3, adata, arow⟩) (v := .bool true) Tryz.results10 rfl rfl rfl (Ml.mb_set' HZ3.out) ⟨rfl, HS3.out.but ((But.refl [w.heap.size + 1] w3).sets (w.heap.size + 1) 0 (Mg.cells ⟨akind, aepoch, aseq, ann, ablock, aclient, ae, at0, at1, at2, at3, adata, arow⟩).toList (.inl (by simp))) (fun x hx => HI.out x (by simp at hx; omega)), HB3.out.sets (w.heap.size + 1) 0 (Mg.cells ⟨akind, aepoch, aseq, ann, ablock, aclient, ae, at0, at1, at2, at3, adata, arow⟩).toList (.inr (Nat.le_succ _))⟩


set_option maxHeartbeats 4000000 in
theorem take_node3 (w : World) (tB : Nat) (fr : Int) (m : Mg) (hk : m.kind = 3) (hn : isNode fr = false) :
    Calls Tryz.prog 10 #[.pointer (some ⟨tB, 0, none⟩), .int .i64 fr, msgV m] w fun e w' => e = .returned (.tuple #[msgV Ml.nil, .bool false]) ∧ Below w.heap.size w w' := by
  have HX := Lib.hid (tak_boxes w m)
  have HDo := Lib.hid (fun w' => doer3 w' ⟨tB, 0, none⟩)
  have HNo := Lib.hid (fun w' => node_any fr w')
  have fn0 := func_nil
  rw [hn] at HNo
  clear hn
  obtain ⟨kind, epoch, seq, nn, block, client, e0, t0, t1, t2, t3, data, row⟩ := m
  simp only at hk
  subst hk
  have HZ := Lib.hid HX.out.2.1
  have HB := Lib.hid HX.out.2.2
  obtain ⟨z0, z1, z2, z3, z4, z5, z6, z7, z8, z9, z10, z11, z12⟩ := HX.out.2.1.cells
  have zf := HX.out.2.1.fz
  simp only [msgV, Mg.cells, Ml.nil] at *
  go_enter Tryz.func10, Tryz.ntmps10
  go_wp2_with (first
    | (go_at_call 32; with_reducible refine (HDo.out _).mono ?_; rintro e1 w1 ⟨rfl, rfl⟩)
    | (go_at_call 33; with_reducible refine (HNo.out _).mono ?_; rintro e1 w1 ⟨rfl, rfl⟩))
  exact ret_msgT (m := Ml.nil) Tryz.results10 rfl rfl rfl HZ.out ⟨rfl, HB.out⟩


set_option maxHeartbeats 4000000 in
theorem take_may3 (w : World) (tB : Nat) (fr : Int) (m : Mg) (hk : m.kind = 3) (hn : isNode fr = true) (hm : may m = false) :
    Calls Tryz.prog 10 #[.pointer (some ⟨tB, 0, none⟩), .int .i64 fr, msgV m] w fun e w' => e = .returned (.tuple #[msgV Ml.nil, .bool false]) ∧ Below w.heap.size w w' := by
  have HX := Lib.hid (tak_boxes w m)
  have HDo := Lib.hid (fun w' => doer3 w' ⟨tB, 0, none⟩)
  have HNo := Lib.hid (fun w' => node_any fr w')
  have fn0 := func_nil
  have HMy := Lib.hid (Ml.may_any ((w.alloc (.cells m.cells 37)).alloc (.cells Ml.nil.cells 37)) m)
  rw [hm] at HMy
  rw [hn] at HNo
  clear hn hm
  obtain ⟨kind, epoch, seq, nn, block, client, e0, t0, t1, t2, t3, data, row⟩ := m
  simp only at hk
  subst hk
  have HZ := Lib.hid HX.out.2.1
  have HB := Lib.hid HX.out.2.2
  simp only [msgV, Mg.cells, Ml.nil] at *
  go_enter Tryz.func10, Tryz.ntmps10
  go_wp2_with (first
    | (go_at_call 32; with_reducible refine (HDo.out _).mono ?_; rintro e1 w1 ⟨rfl, rfl⟩)
    | (go_at_call 33; with_reducible refine (HNo.out _).mono ?_; rintro e1 w1 ⟨rfl, rfl⟩)
    | (go_at_call 34; with_reducible refine HMy.out.mono ?_; rintro e1 w1 ⟨rfl, hb1⟩
       have HB1 := Lib.hid (HB.out.trans (hb1.mono HB.out.size))
       have HZ1 := Lib.hid (HZ.out.below hb1 HZ.out.lt)
       obtain ⟨z0, z1, z2, z3, z4, z5, z6, z7, z8, z9, z10, z11, z12⟩ := HZ1.out.cells
       have zf := HZ1.out.fz
       clear hb1))
  exact ret_msgT (m := Ml.nil) Tryz.results10 rfl rfl rfl (Ml.mb_set' HZ1.out) ⟨rfl, Ml.sets_below (o := 0) HB1.out Ml.nil.cells.toList (Nat.le_succ _)⟩


set_option maxHeartbeats 4000000 in
theorem take_no3 (w : World) {tB cB a b : Nat} {c C2 : M.Cl} {L L2 W : Int} {D : M.Dv} {E : Int} (h : WS w dB sB mB n d tB cB a b c L W) (fr : Int) (m : Mg) (hk : m.kind = 3) (hn : isNode fr = true) (hm : may m = true)
    (hdo : ∀ w', WS w' dB sB mB n d tB cB a b c L W → Calls Tryz.prog 55 #[.pointer (some ⟨tB, 0, none⟩), .int .i64 fr, msgV m] w' fun e w'' => e = .returned (.int .i64 E) ∧ WS w'' dB sB mB n D tB cB a b C2 L2 W ∧ But (ours dB sB mB cB tB) w' w'') (hE : E = 30) :
    Calls Tryz.prog 10 #[.pointer (some ⟨tB, 0, none⟩), .int .i64 fr, msgV m] w fun e w' => e = .returned (.tuple #[msgV Ml.nil, .bool false]) ∧ WS w' dB sB mB n D tB cB a b C2 L2 W ∧ But (ours dB sB mB cB tB) w w' := by
  have HX := Lib.hid (tak_boxes w m)
  have HDo := Lib.hid (fun w' => doer3 w' ⟨tB, 0, none⟩)
  have HNo := Lib.hid (fun w' => node_any fr w')
  have fn0 := func_nil
  have HMy := Lib.hid (Ml.may_any ((w.alloc (.cells m.cells 37)).alloc (.cells Ml.nil.cells 37)) m)
  rw [hm] at HMy
  rw [hn] at HNo
  have HS := Lib.hid h
  have HI : Hid (∀ b, w.heap.size ≤ b → b ∉ ours dB sB mB cB tB) := Lib.hid fun b hb => h.not_mem hb
  have HDd := Lib.hid hdo
  subst hE
  clear hn hm hdo h
  obtain ⟨kind, epoch, seq, nn, block, client, e0, t0, t1, t2, t3, data, row⟩ := m
  simp only at hk
  subst hk
  have HM := Lib.hid HX.out.1
  have HZ := Lib.hid HX.out.2.1
  have HB := Lib.hid HX.out.2.2
  simp only [msgV, Mg.cells, Ml.nil] at *
  go_enter Tryz.func10, Tryz.ntmps10
  go_wp2_with (first
    | (go_at_call 32; with_reducible refine (HDo.out _).mono ?_; rintro e1 w1 ⟨rfl, rfl⟩)
    | (go_at_call 33; with_reducible refine (HNo.out _).mono ?_; rintro e1 w1 ⟨rfl, rfl⟩)
    | (go_at_call 34; with_reducible refine HMy.out.mono ?_; rintro e1 w1 ⟨rfl, hb1⟩
       have HB1 := Lib.hid (HB.out.trans (hb1.mono HB.out.size))
       have HZ1 := Lib.hid (HZ.out.below hb1 HZ.out.lt)
       have HM1 := Lib.hid (HM.out.below hb1 HM.out.lt)
       have HS1 := Lib.hid (HS.out.below HB1.out)
       obtain ⟨c0, c1, c2, c3, c4, c5, c6, c7, c8, c9, c10, c11, c12⟩ := HM1.out.cells
       clear hb1)
    | (go_at_call 55; with_reducible refine (HDd.out _ HS1.out).mono ?_; rintro e2 w2 ⟨rfl, hs2, hb2⟩
       have HB2 : Hid (But (ours dB sB mB cB tB) w w2) := Lib.hid (((But.of_below HB1.out).mono (by simp)).trans hb2)
       have HS2 := Lib.hid hs2
       have HZ2 := Lib.hid (mb_but HZ1.out hb2 (HI.out _ (Nat.le_succ _)))
       have HM2 := Lib.hid (mb_but HM1.out hb2 (HI.out _ (Nat.le_refl _)))
       clear c0 c1 c2 c3 c4 c5 c6 c7 c8 c9 c10 c11 c12
       obtain ⟨c0, c1, c2, c3, c4, c5, c6, c7, c8, c9, c10, c11, c12⟩ := HM2.out.cells
       obtain ⟨z0, z1, z2, z3, z4, z5, z6, z7, z8, z9, z10, z11, z12⟩ := HZ2.out.cells
       have zf := HZ2.out.fz
       clear hs2 hb2))
  exact ret_msgT (m := ⟨0, 0, 0, 0, 0, 0, 0, 0, 0, 0, 0, ⟨#[]⟩, ⟨#[]⟩⟩) (v := .bool false) Tryz.results10 rfl rfl rfl (Ml.mb_set' HZ2.out) ⟨rfl, HS2.out.but ((But.refl [w.heap.size + 1] w2).sets (w.heap.size + 1) 0 (Mg.cells ⟨0, 0, 0, 0, 0, 0, 0, 0, 0, 0, 0, ⟨#[]⟩, ⟨#[]⟩⟩).toList (.inl (by simp))) (fun x hx => HI.out x (by simp at hx; omega)), HB2.out.sets (w.heap.size + 1) 0 (Mg.cells ⟨0, 0, 0, 0, 0, 0, 0, 0, 0, 0, 0, ⟨#[]⟩, ⟨#[]⟩⟩).toList (.inr (Nat.le_succ _))⟩


set_option maxHeartbeats 4000000 in
theorem take_yes3 (w : World) {tB cB a b : Nat} {c C2 : M.Cl} {L L2 W : Int} {D : M.Dv} {E : Int} (h : WS w dB sB mB n d tB cB a b c L W) (fr : Int) (m : Mg) (hk : m.kind = 3) (hn : isNode fr = true) (hm : may m = true)
    (hdo : ∀ w', WS w' dB sB mB n d tB cB a b c L W → Calls Tryz.prog 55 #[.pointer (some ⟨tB, 0, none⟩), .int .i64 fr, msgV m] w' fun e w'' => e = .returned (.int .i64 E) ∧ WS w'' dB sB mB n D tB cB a b C2 L2 W ∧ But (ours dB sB mB cB tB) w' w'') (hE : E ≠ 30) :
    Calls Tryz.prog 10 #[.pointer (some ⟨tB, 0, none⟩), .int .i64 fr, msgV m] w fun e w' => e = .returned (.tuple #[msgV (ansA (fx C2.text) m E), .bool true]) ∧ WS w' dB sB mB n D tB cB a b C2 L2 W ∧ But (ours dB sB mB cB tB) w w' := by
  have HX := Lib.hid (tak_boxes w m)
  have HDo := Lib.hid (fun w' => doer3 w' ⟨tB, 0, none⟩)
  have HNo := Lib.hid (fun w' => node_any fr w')
  have fn0 := func_nil
  have HMy := Lib.hid (Ml.may_any ((w.alloc (.cells m.cells 37)).alloc (.cells Ml.nil.cells 37)) m)
  rw [hm] at HMy
  rw [hn] at HNo
  have HS := Lib.hid h
  have HI : Hid (∀ b, w.heap.size ≤ b → b ∉ ours dB sB mB cB tB) := Lib.hid fun b hb => h.not_mem hb
  have HDd := Lib.hid hdo
  have HAn := Lib.hid (fun (w' : World) (h : WS w' dB sB mB n D tB cB a b C2 L2 W) => answer_any w' h m E)
  generalize hA : ansA (fx C2.text) m E = A at *
  have hE2 : (E == 30) = false := by rw [beq_eq_false_iff_ne]; exact hE
  clear hn hm hdo h hE hA
  obtain ⟨kind, epoch, seq, nn, block, client, e0, t0, t1, t2, t3, data, row⟩ := m
  obtain ⟨akind, aepoch, aseq, ann, ablock, aclient, ae, at0, at1, at2, at3, adata, arow⟩ := A
  simp only at hk
  subst hk
  have HM := Lib.hid HX.out.1
  have HZ := Lib.hid HX.out.2.1
  have HB := Lib.hid HX.out.2.2
  simp only [msgV, Mg.cells, Ml.nil] at *
  go_enter Tryz.func10, Tryz.ntmps10
  go_wp2_with (first
    | (go_at_call 32; with_reducible refine (HDo.out _).mono ?_; rintro e1 w1 ⟨rfl, rfl⟩)
    | (go_at_call 33; with_reducible refine (HNo.out _).mono ?_; rintro e1 w1 ⟨rfl, rfl⟩)
    | (go_at_call 34; with_reducible refine HMy.out.mono ?_; rintro e1 w1 ⟨rfl, hb1⟩
       have HB1 := Lib.hid (HB.out.trans (hb1.mono HB.out.size))
       have HZ1 := Lib.hid (HZ.out.below hb1 HZ.out.lt)
       have HM1 := Lib.hid (HM.out.below hb1 HM.out.lt)
       have HS1 := Lib.hid (HS.out.below HB1.out)
       obtain ⟨c0, c1, c2, c3, c4, c5, c6, c7, c8, c9, c10, c11, c12⟩ := HM1.out.cells
       clear hb1)
    | (go_at_call 55; with_reducible refine (HDd.out _ HS1.out).mono ?_; rintro e2 w2 ⟨rfl, hs2, hb2⟩
       have HB2 : Hid (But (ours dB sB mB cB tB) w w2) := Lib.hid (((But.of_below HB1.out).mono (by simp)).trans hb2)
       have HS2 := Lib.hid hs2
       have HZ2 := Lib.hid (mb_but HZ1.out hb2 (HI.out _ (Nat.le_succ _)))
       have HM2 := Lib.hid (mb_but HM1.out hb2 (HI.out _ (Nat.le_refl _)))
       clear c0 c1 c2 c3 c4 c5 c6 c7 c8 c9 c10 c11 c12
       obtain ⟨c0, c1, c2, c3, c4, c5, c6, c7, c8, c9, c10, c11, c12⟩ := HM2.out.cells
       obtain ⟨z0, z1, z2, z3, z4, z5, z6, z7, z8, z9, z10, z11, z12⟩ := HZ2.out.cells
       have zf := HZ2.out.fz
       clear hs2 hb2)
    | (go_at_call 35; with_reducible refine (HAn.out _ HS2.out).mono ?_; rintro e3 w3 ⟨rfl, hb3⟩
       have HB3 : Hid (But (ours dB sB mB cB tB) w w3) := Lib.hid (HB2.out.trans ((But.of_below hb3).mono (by simp)))
       have HS3 := Lib.hid (HS2.out.below hb3)
       have HZ3 := Lib.hid (HZ2.out.below hb3 HZ2.out.lt)
       clear z0 z1 z2 z3 z4 z5 z6 z7 z8 z9 z10 z11 z12 zf
       obtain ⟨z0, z1, z2, z3, z4, z5, z6, z7, z8, z9, z10, z11, z12⟩ := HZ3.out.cells
       have zf := HZ3.out.fz
       clear hb3))
  exact ret_msgT (m := ⟨akind, aepoch, aseq, ann, ablock, aclient, ae, at0, at1, at2, at3, adata, arow⟩) (v := .bool true) Tryz.results10 rfl rfl rfl (Ml.mb_set' HZ3.out) ⟨rfl, HS3.out.but ((But.refl [w.heap.size + 1] w3).sets (w.heap.size + 1) 0 (Mg.cells ⟨akind, aepoch, aseq, ann, ablock, aclient, ae, at0, at1, at2, at3, adata, arow⟩).toList (.inl (by simp))) (fun x hx => HI.out x (by simp at hx; omega)), HB3.out.sets (w.heap.size + 1) 0 (Mg.cells ⟨akind, aepoch, aseq, ann, ablock, aclient, ae, at0, at1, at2, at3, adata, arow⟩).toList (.inr (Nat.le_succ _))⟩


set_option maxHeartbeats 4000000 in
theorem take_node4 (w : World) (tB : Nat) (fr : Int) (m : Mg) (hk : m.kind = 4) (hn : isNode fr = false) :
    Calls Tryz.prog 10 #[.pointer (some ⟨tB, 0, none⟩), .int .i64 fr, msgV m] w fun e w' => e = .returned (.tuple #[msgV Ml.nil, .bool false]) ∧ Below w.heap.size w w' := by
  have HX := Lib.hid (tak_boxes w m)
  have HDo := Lib.hid (fun w' => doer4 w' ⟨tB, 0, none⟩)
  have HNo := Lib.hid (fun w' => node_any fr w')
  have fn0 := func_nil
  rw [hn] at HNo
  clear hn
  obtain ⟨kind, epoch, seq, nn, block, client, e0, t0, t1, t2, t3, data, row⟩ := m
  simp only at hk
  subst hk
  have HZ := Lib.hid HX.out.2.1
  have HB := Lib.hid HX.out.2.2
  obtain ⟨z0, z1, z2, z3, z4, z5, z6, z7, z8, z9, z10, z11, z12⟩ := HX.out.2.1.cells
  have zf := HX.out.2.1.fz
  simp only [msgV, Mg.cells, Ml.nil] at *
  go_enter Tryz.func10, Tryz.ntmps10
  go_wp2_with (first
    | (go_at_call 32; with_reducible refine (HDo.out _).mono ?_; rintro e1 w1 ⟨rfl, rfl⟩)
    | (go_at_call 33; with_reducible refine (HNo.out _).mono ?_; rintro e1 w1 ⟨rfl, rfl⟩))
  exact ret_msgT (m := Ml.nil) Tryz.results10 rfl rfl rfl HZ.out ⟨rfl, HB.out⟩


set_option maxHeartbeats 4000000 in
theorem take_may4 (w : World) (tB : Nat) (fr : Int) (m : Mg) (hk : m.kind = 4) (hn : isNode fr = true) (hm : may m = false) :
    Calls Tryz.prog 10 #[.pointer (some ⟨tB, 0, none⟩), .int .i64 fr, msgV m] w fun e w' => e = .returned (.tuple #[msgV Ml.nil, .bool false]) ∧ Below w.heap.size w w' := by
  have HX := Lib.hid (tak_boxes w m)
  have HDo := Lib.hid (fun w' => doer4 w' ⟨tB, 0, none⟩)
  have HNo := Lib.hid (fun w' => node_any fr w')
  have fn0 := func_nil
  have HMy := Lib.hid (Ml.may_any ((w.alloc (.cells m.cells 37)).alloc (.cells Ml.nil.cells 37)) m)
  rw [hm] at HMy
  rw [hn] at HNo
  clear hn hm
  obtain ⟨kind, epoch, seq, nn, block, client, e0, t0, t1, t2, t3, data, row⟩ := m
  simp only at hk
  subst hk
  have HZ := Lib.hid HX.out.2.1
  have HB := Lib.hid HX.out.2.2
  simp only [msgV, Mg.cells, Ml.nil] at *
  go_enter Tryz.func10, Tryz.ntmps10
  go_wp2_with (first
    | (go_at_call 32; with_reducible refine (HDo.out _).mono ?_; rintro e1 w1 ⟨rfl, rfl⟩)
    | (go_at_call 33; with_reducible refine (HNo.out _).mono ?_; rintro e1 w1 ⟨rfl, rfl⟩)
    | (go_at_call 34; with_reducible refine HMy.out.mono ?_; rintro e1 w1 ⟨rfl, hb1⟩
       have HB1 := Lib.hid (HB.out.trans (hb1.mono HB.out.size))
       have HZ1 := Lib.hid (HZ.out.below hb1 HZ.out.lt)
       obtain ⟨z0, z1, z2, z3, z4, z5, z6, z7, z8, z9, z10, z11, z12⟩ := HZ1.out.cells
       have zf := HZ1.out.fz
       clear hb1))
  exact ret_msgT (m := Ml.nil) Tryz.results10 rfl rfl rfl (Ml.mb_set' HZ1.out) ⟨rfl, Ml.sets_below (o := 0) HB1.out Ml.nil.cells.toList (Nat.le_succ _)⟩


set_option maxHeartbeats 4000000 in
theorem take_no4 (w : World) {tB cB a b : Nat} {c C2 : M.Cl} {L L2 W : Int} {D : M.Dv} {E : Int} (h : WS w dB sB mB n d tB cB a b c L W) (fr : Int) (m : Mg) (hk : m.kind = 4) (hn : isNode fr = true) (hm : may m = true)
    (hdo : ∀ w', WS w' dB sB mB n d tB cB a b c L W → Calls Tryz.prog 56 #[.pointer (some ⟨tB, 0, none⟩), .int .i64 fr, msgV m] w' fun e w'' => e = .returned (.int .i64 E) ∧ WS w'' dB sB mB n D tB cB a b C2 L2 W ∧ But (ours dB sB mB cB tB) w' w'') (hE : E = 30) :
    Calls Tryz.prog 10 #[.pointer (some ⟨tB, 0, none⟩), .int .i64 fr, msgV m] w fun e w' => e = .returned (.tuple #[msgV Ml.nil, .bool false]) ∧ WS w' dB sB mB n D tB cB a b C2 L2 W ∧ But (ours dB sB mB cB tB) w w' := by
  have HX := Lib.hid (tak_boxes w m)
  have HDo := Lib.hid (fun w' => doer4 w' ⟨tB, 0, none⟩)
  have HNo := Lib.hid (fun w' => node_any fr w')
  have fn0 := func_nil
  have HMy := Lib.hid (Ml.may_any ((w.alloc (.cells m.cells 37)).alloc (.cells Ml.nil.cells 37)) m)
  rw [hm] at HMy
  rw [hn] at HNo
  have HS := Lib.hid h
  have HI : Hid (∀ b, w.heap.size ≤ b → b ∉ ours dB sB mB cB tB) := Lib.hid fun b hb => h.not_mem hb
  have HDd := Lib.hid hdo
  subst hE
  clear hn hm hdo h
  obtain ⟨kind, epoch, seq, nn, block, client, e0, t0, t1, t2, t3, data, row⟩ := m
  simp only at hk
  subst hk
  have HM := Lib.hid HX.out.1
  have HZ := Lib.hid HX.out.2.1
  have HB := Lib.hid HX.out.2.2
  simp only [msgV, Mg.cells, Ml.nil] at *
  go_enter Tryz.func10, Tryz.ntmps10
  go_wp2_with (first
    | (go_at_call 32; with_reducible refine (HDo.out _).mono ?_; rintro e1 w1 ⟨rfl, rfl⟩)
    | (go_at_call 33; with_reducible refine (HNo.out _).mono ?_; rintro e1 w1 ⟨rfl, rfl⟩)
    | (go_at_call 34; with_reducible refine HMy.out.mono ?_; rintro e1 w1 ⟨rfl, hb1⟩
       have HB1 := Lib.hid (HB.out.trans (hb1.mono HB.out.size))
       have HZ1 := Lib.hid (HZ.out.below hb1 HZ.out.lt)
       have HM1 := Lib.hid (HM.out.below hb1 HM.out.lt)
       have HS1 := Lib.hid (HS.out.below HB1.out)
       obtain ⟨c0, c1, c2, c3, c4, c5, c6, c7, c8, c9, c10, c11, c12⟩ := HM1.out.cells
       clear hb1)
    | (go_at_call 56; with_reducible refine (HDd.out _ HS1.out).mono ?_; rintro e2 w2 ⟨rfl, hs2, hb2⟩
       have HB2 : Hid (But (ours dB sB mB cB tB) w w2) := Lib.hid (((But.of_below HB1.out).mono (by simp)).trans hb2)
       have HS2 := Lib.hid hs2
       have HZ2 := Lib.hid (mb_but HZ1.out hb2 (HI.out _ (Nat.le_succ _)))
       have HM2 := Lib.hid (mb_but HM1.out hb2 (HI.out _ (Nat.le_refl _)))
       clear c0 c1 c2 c3 c4 c5 c6 c7 c8 c9 c10 c11 c12
       obtain ⟨c0, c1, c2, c3, c4, c5, c6, c7, c8, c9, c10, c11, c12⟩ := HM2.out.cells
       obtain ⟨z0, z1, z2, z3, z4, z5, z6, z7, z8, z9, z10, z11, z12⟩ := HZ2.out.cells
       have zf := HZ2.out.fz
       clear hs2 hb2))
  exact ret_msgT (m := ⟨0, 0, 0, 0, 0, 0, 0, 0, 0, 0, 0, ⟨#[]⟩, ⟨#[]⟩⟩) (v := .bool false) Tryz.results10 rfl rfl rfl (Ml.mb_set' HZ2.out) ⟨rfl, HS2.out.but ((But.refl [w.heap.size + 1] w2).sets (w.heap.size + 1) 0 (Mg.cells ⟨0, 0, 0, 0, 0, 0, 0, 0, 0, 0, 0, ⟨#[]⟩, ⟨#[]⟩⟩).toList (.inl (by simp))) (fun x hx => HI.out x (by simp at hx; omega)), HB2.out.sets (w.heap.size + 1) 0 (Mg.cells ⟨0, 0, 0, 0, 0, 0, 0, 0, 0, 0, 0, ⟨#[]⟩, ⟨#[]⟩⟩).toList (.inr (Nat.le_succ _))⟩


set_option maxHeartbeats 4000000 in
theorem take_yes4 (w : World) {tB cB a b : Nat} {c C2 : M.Cl} {L L2 W : Int} {D : M.Dv} {E : Int} (h : WS w dB sB mB n d tB cB a b c L W) (fr : Int) (m : Mg) (hk : m.kind = 4) (hn : isNode fr = true) (hm : may m = true)
    (hdo : ∀ w', WS w' dB sB mB n d tB cB a b c L W → Calls Tryz.prog 56 #[.pointer (some ⟨tB, 0, none⟩), .int .i64 fr, msgV m] w' fun e w'' => e = .returned (.int .i64 E) ∧ WS w'' dB sB mB n D tB cB a b C2 L2 W ∧ But (ours dB sB mB cB tB) w' w'') (hE : E ≠ 30) :
    Calls Tryz.prog 10 #[.pointer (some ⟨tB, 0, none⟩), .int .i64 fr, msgV m] w fun e w' => e = .returned (.tuple #[msgV (ansA (fx C2.text) m E), .bool true]) ∧ WS w' dB sB mB n D tB cB a b C2 L2 W ∧ But (ours dB sB mB cB tB) w w' := by
  have HX := Lib.hid (tak_boxes w m)
  have HDo := Lib.hid (fun w' => doer4 w' ⟨tB, 0, none⟩)
  have HNo := Lib.hid (fun w' => node_any fr w')
  have fn0 := func_nil
  have HMy := Lib.hid (Ml.may_any ((w.alloc (.cells m.cells 37)).alloc (.cells Ml.nil.cells 37)) m)
  rw [hm] at HMy
  rw [hn] at HNo
  have HS := Lib.hid h
  have HI : Hid (∀ b, w.heap.size ≤ b → b ∉ ours dB sB mB cB tB) := Lib.hid fun b hb => h.not_mem hb
  have HDd := Lib.hid hdo
  have HAn := Lib.hid (fun (w' : World) (h : WS w' dB sB mB n D tB cB a b C2 L2 W) => answer_any w' h m E)
  generalize hA : ansA (fx C2.text) m E = A at *
  have hE2 : (E == 30) = false := by rw [beq_eq_false_iff_ne]; exact hE
  clear hn hm hdo h hE hA
  obtain ⟨kind, epoch, seq, nn, block, client, e0, t0, t1, t2, t3, data, row⟩ := m
  obtain ⟨akind, aepoch, aseq, ann, ablock, aclient, ae, at0, at1, at2, at3, adata, arow⟩ := A
  simp only at hk
  subst hk
  have HM := Lib.hid HX.out.1
  have HZ := Lib.hid HX.out.2.1
  have HB := Lib.hid HX.out.2.2
  simp only [msgV, Mg.cells, Ml.nil] at *
  go_enter Tryz.func10, Tryz.ntmps10
  go_wp2_with (first
    | (go_at_call 32; with_reducible refine (HDo.out _).mono ?_; rintro e1 w1 ⟨rfl, rfl⟩)
    | (go_at_call 33; with_reducible refine (HNo.out _).mono ?_; rintro e1 w1 ⟨rfl, rfl⟩)
    | (go_at_call 34; with_reducible refine HMy.out.mono ?_; rintro e1 w1 ⟨rfl, hb1⟩
       have HB1 := Lib.hid (HB.out.trans (hb1.mono HB.out.size))
       have HZ1 := Lib.hid (HZ.out.below hb1 HZ.out.lt)
       have HM1 := Lib.hid (HM.out.below hb1 HM.out.lt)
       have HS1 := Lib.hid (HS.out.below HB1.out)
       obtain ⟨c0, c1, c2, c3, c4, c5, c6, c7, c8, c9, c10, c11, c12⟩ := HM1.out.cells
       clear hb1)
    | (go_at_call 56; with_reducible refine (HDd.out _ HS1.out).mono ?_; rintro e2 w2 ⟨rfl, hs2, hb2⟩
       have HB2 : Hid (But (ours dB sB mB cB tB) w w2) := Lib.hid (((But.of_below HB1.out).mono (by simp)).trans hb2)
       have HS2 := Lib.hid hs2
       have HZ2 := Lib.hid (mb_but HZ1.out hb2 (HI.out _ (Nat.le_succ _)))
       have HM2 := Lib.hid (mb_but HM1.out hb2 (HI.out _ (Nat.le_refl _)))
       clear c0 c1 c2 c3 c4 c5 c6 c7 c8 c9 c10 c11 c12
       obtain ⟨c0, c1, c2, c3, c4, c5, c6, c7, c8, c9, c10, c11, c12⟩ := HM2.out.cells
       obtain ⟨z0, z1, z2, z3, z4, z5, z6, z7, z8, z9, z10, z11, z12⟩ := HZ2.out.cells
       have zf := HZ2.out.fz
       clear hs2 hb2)
    | (go_at_call 35; with_reducible refine (HAn.out _ HS2.out).mono ?_; rintro e3 w3 ⟨rfl, hb3⟩
       have HB3 : Hid (But (ours dB sB mB cB tB) w w3) := Lib.hid (HB2.out.trans ((But.of_below hb3).mono (by simp)))
       have HS3 := Lib.hid (HS2.out.below hb3)
       have HZ3 := Lib.hid (HZ2.out.below hb3 HZ2.out.lt)
       clear z0 z1 z2 z3 z4 z5 z6 z7 z8 z9 z10 z11 z12 zf
       obtain ⟨z0, z1, z2, z3, z4, z5, z6, z7, z8, z9, z10, z11, z12⟩ := HZ3.out.cells
       have zf := HZ3.out.fz
       clear hb3))
  exact ret_msgT (m := ⟨akind, aepoch, aseq, ann, ablock, aclient, ae, at0, at1, at2, at3, adata, arow⟩) (v := .bool true) Tryz.results10 rfl rfl rfl (Ml.mb_set' HZ3.out) ⟨rfl, HS3.out.but ((But.refl [w.heap.size + 1] w3).sets (w.heap.size + 1) 0 (Mg.cells ⟨akind, aepoch, aseq, ann, ablock, aclient, ae, at0, at1, at2, at3, adata, arow⟩).toList (.inl (by simp))) (fun x hx => HI.out x (by simp at hx; omega)), HB3.out.sets (w.heap.size + 1) 0 (Mg.cells ⟨akind, aepoch, aseq, ann, ablock, aclient, ae, at0, at1, at2, at3, adata, arow⟩).toList (.inr (Nat.le_succ _))⟩

end Go.Proofs.YtpoolpckabpnfaaGreat.Wt
namespace Go.Proofs.YtpoolpckabpnfaaGreat.Wt
open Go.RowKit
open Ml (Mg may msgV MB)
set_option linter.unusedVariables false
set_option linter.unusedSimpArgs false
set_option maxRecDepth 20000

variable {dB sB mB n : Nat} {d : M.Dv}


theorem take_no (w : World) {tB cB a b : Nat} {c : M.Cl} {L W : Int} (h : WS w dB sB mB n d tB cB a b c L W) (fr : Int) (m : Mg) (hc : can fr m = false) :
    Calls Tryz.prog 10 #[.pointer (some ⟨tB, 0, none⟩), .int .i64 fr, msgV m] w fun e w' => e = .returned (.tuple #[msgV Ml.nil, .bool false]) ∧ Below w.heap.size w w' := by
  by_cases h1 : kindOk m.kind = false
  · exact take_kind w tB fr m h1
  · have h1' : kindOk m.kind = true := by simpa using h1
    have hk : m.kind = 1 ∨ m.kind = 3 ∨ m.kind = 4 := by simpa [kindOk] using h1'
    by_cases h2 : isNode fr = false
    · rcases hk with hk | hk | hk
      · exact take_node1 w tB fr m hk h2
      · exact take_node3 w tB fr m hk h2
      · exact take_node4 w tB fr m hk h2
    · have h2' : isNode fr = true := by simpa using h2
      have h3 : may m = false := by
        unfold can at hc
        rw [h2', show kindOk m.kind = true by simpa using h1] at hc
        simpa using hc
      rcases hk with hk | hk | hk
      · exact take_may1 w tB fr m hk h2' h3
      · exact take_may3 w tB fr m hk h2' h3
      · exact take_may4 w tB fr m hk h2' h3

theorem tak_eqs {n a b : Nat} {d : M.Dv} {c : M.Cl} {L W fr : Int} {m : Mg} (hc : can fr m = true) :
    takD n a b d c L fr m = doD n a b d c (takP (fx c.text) L fr m) ∧ takC n a b d c L fr m = doC n a b d c (takP (fx c.text) L fr m) := by
  unfold takD takC
  rw [if_pos hc, if_pos hc]
  exact ⟨rfl, rfl⟩
/-- a message is taken -/
theorem take_any (w : World) {tB cB a b : Nat} {c : M.Cl} {L W : Int} (h : WS w dB sB mB n d tB cB a b c L W) (fr : Int) (m : Mg) :
    Calls Tryz.prog 10 #[.pointer (some ⟨tB, 0, none⟩), .int .i64 fr, msgV m] w fun e w' => e = .returned (.tuple #[msgV (takA n a b d c L fr m), .bool (takI n a b d c L fr m)]) ∧ WS w' dB sB mB n (takD n a b d c L fr m) tB cB a b (takC n a b d c L fr m) (takL n a b d c L W fr m) W ∧ But (ours dB sB mB cB tB) w w' := by
  cases hc : can fr m with
  | false =>
    have e1 : takI n a b d c L fr m = false := by unfold takI; rw [hc]; rfl
    have e2 : takA n a b d c L fr m = Ml.nil := by unfold takA; rw [e1]; rfl
    have e3 : takD n a b d c L fr m = d := by unfold takD; rw [if_neg (by simp [hc])]
    have e4 : takC n a b d c L fr m = c := by unfold takC; rw [if_neg (by simp [hc])]
    have e5 : takL n a b d c L W fr m = L := by unfold takL; rw [if_neg (by simp [hc])]
    rw [e1, e2, e3, e4, e5]
    refine (take_no w h fr m hc).mono ?_
    rintro e w' ⟨rfl, hb⟩
    exact ⟨rfl, h.below hb, (But.of_below hb).mono (by simp)⟩
  | true =>
    obtain ⟨e3, e4⟩ := @tak_eqs n a b d c L W fr m hc
    obtain ⟨hk, hf, hm⟩ := (can_iff fr m).1 hc
    have hn : isNode fr = true := (isNode_iff fr).2 hf
    rcases hk with hk | hk | hk
    · have ep : takP (fx c.text) L fr m = askP (fx c.text) L fr m := by unfold takP; rw [if_pos hk]
      have eE : takE n a b d c L fr m = doE n a b d c (askP (fx c.text) L fr m) := by unfold takE; rw [ep]
      have e5 : takL n a b d c L W fr m = if takE n a b d c L fr m = 0 then W else L := by
        unfold takL; rw [hc, hk]; simp
      have hdo := fun (w' : World) (h : WS w' dB sB mB n d tB cB a b c L W) => ask_any w' h fr hf m
      rw [← ep, ← e3, ← e4] at hdo
      rw [ep, ← eE, ← e5] at hdo
      by_cases h30 : takE n a b d c L fr m = 30
      · have e1 : takI n a b d c L fr m = false := by unfold takI; rw [hc, h30]; rfl
        have e2 : takA n a b d c L fr m = Ml.nil := by unfold takA; rw [e1]; rfl
        rw [e1, e2]
        exact take_no1 w h fr m hk hn hm hdo h30
      · have e1 : takI n a b d c L fr m = true := by unfold takI; rw [hc, decide_eq_false h30]; rfl
        have e2 : takA n a b d c L fr m = ansA (fx (takC n a b d c L fr m).text) m (takE n a b d c L fr m) := by unfold takA; rw [if_pos e1]
        rw [e1, e2]
        exact take_yes1 w h fr m hk hn hm hdo h30
    · have ep : takP (fx c.text) L fr m = chaP (fx c.text) fr m := by unfold takP; rw [if_neg (by omega), if_pos hk]
      have eE : takE n a b d c L fr m = doE n a b d c (chaP (fx c.text) fr m) := by unfold takE; rw [ep]
      have e5 : takL n a b d c L W fr m = L := by unfold takL; rw [if_neg (by omega)]
      have hdo := fun (w' : World) (h : WS w' dB sB mB n d tB cB a b c L W) => cha_any w' h fr hf m hm
      rw [← ep, ← e3, ← e4] at hdo
      rw [ep, ← eE] at hdo
      rw [e5]
      by_cases h30 : takE n a b d c L fr m = 30
      · have e1 : takI n a b d c L fr m = false := by unfold takI; rw [hc, h30]; rfl
        have e2 : takA n a b d c L fr m = Ml.nil := by unfold takA; rw [e1]; rfl
        rw [e1, e2]
        exact take_no3 w h fr m hk hn hm hdo h30
      · have e1 : takI n a b d c L fr m = true := by unfold takI; rw [hc, decide_eq_false h30]; rfl
        have e2 : takA n a b d c L fr m = ansA (fx (takC n a b d c L fr m).text) m (takE n a b d c L fr m) := by unfold takA; rw [if_pos e1]
        rw [e1, e2]
        exact take_yes3 w h fr m hk hn hm hdo h30
    · have ep : takP (fx c.text) L fr m = losP (fx c.text) fr := by unfold takP; rw [if_neg (by omega), if_neg (by omega)]
      have eE : takE n a b d c L fr m = doE n a b d c (losP (fx c.text) fr) := by unfold takE; rw [ep]
      have e5 : takL n a b d c L W fr m = L := by unfold takL; rw [if_neg (by omega)]
      have hdo := fun (w' : World) (h : WS w' dB sB mB n d tB cB a b c L W) => lost_any w' h fr hf m
      rw [← ep, ← e3, ← e4] at hdo
      rw [ep, ← eE] at hdo
      rw [e5]
      by_cases h30 : takE n a b d c L fr m = 30
      · have e1 : takI n a b d c L fr m = false := by unfold takI; rw [hc, h30]; rfl
        have e2 : takA n a b d c L fr m = Ml.nil := by unfold takA; rw [e1]; rfl
        rw [e1, e2]
        exact take_no4 w h fr m hk hn hm hdo h30
      · have e1 : takI n a b d c L fr m = true := by unfold takI; rw [hc, decide_eq_false h30]; rfl
        have e2 : takA n a b d c L fr m = ansA (fx (takC n a b d c L fr m).text) m (takE n a b d c L fr m) := by unfold takA; rw [if_pos e1]
        rw [e1, e2]
        exact take_yes4 w h fr m hk hn hm hdo h30
end Go.Proofs.YtpoolpckabpnfaaGreat.Wt
namespace Go.Proofs.YtpoolpckabpnfaaGreat.Wt
open Go.RowKit
open Ml (Mg may msgV MB)
set_option linter.unusedVariables false
set_option linter.unusedSimpArgs false
set_option maxRecDepth 20000

variable {dB sB mB n : Nat} {d : M.Dv}

/-- the cell that lies there -/
def there (d : M.Dv) (a b : Nat) : M.Cl := M.found (M.rdS (M.seen d a)) (M.rdS (M.seen d b))
theorem wopen_arg (w : World) (p : Addr) (a b W : Int) (hW : ¬ (1 ≤ W ∧ W ≤ 1099511627776)) :
    Calls Tryz.prog 7 #[.pointer (some p), .int .i64 a, .int .i64 b, .int .i64 W] w fun e w' => e = .returned (.tuple #[.pointer none, .int .i64 1]) ∧ w = w' := by
  have HW := Lib.hid (fun w' => within_any W 1 1099511627776 w')
  rw [show (decide (1 ≤ W) && decide (W ≤ 1099511627776)) = false by rw [Bool.and_eq_false_iff, decide_eq_false_iff_not, decide_eq_false_iff_not]; omega] at HW
  clear hW
  go_enter Tryz.func7, Tryz.ntmps7
  go_wp2_with (go_at_call 27; with_reducible refine (HW.out _).mono ?_; rintro e w1 ⟨rfl, rfl⟩)
  go_ret2
  exact ⟨rfl, rfl⟩
theorem ws_new {w w2 : World} (h : DevAt w dB sB mB n d) {a b cB : Nat} {W : Int} (hab : a ≠ b ∧ a < n ∧ b < n) (hW : 1 ≤ W ∧ W ≤ 1099511627776) (h1 : w.heap.size ≤ cB) (hc : CellAt w2 cB dB a b (there d a b)) (hb : Below w.heap.size w w2) :
    WS (w2.alloc (.cells #[.pointer (some ⟨cB, 0, none⟩), .int .i64 0, .int .i64 W] 73)) dB sB mB n d w2.heap.size cB a b (there d a b) 0 W := by
  have hA := (Below.refl w2.heap.size w2).alloc (Nat.le_refl _) (.cells #[.pointer (some ⟨cB, 0, none⟩), .int .i64 0, .int .i64 W] 73)
  have l1 := h.ltD
  have l2 := h.lt
  have l3 := h.pend.lt
  have l4 := hc.lt
  have l5 := hb.size
  exact ⟨(h.but (But.of_below hb) (by simp) (by simp) (by simp)).but (But.of_below hA) (by simp) (by simp) (by simp), Bo.new w2 _ _, hc.below hA l4, ⟨by omega, by omega, by omega⟩, ⟨by omega, by omega, by omega, by omega⟩, M.found_o _ _, M.found_gen _ _, M.found_text _ _, hab, hW, by omega⟩

theorem set_ws2 {w : World} {tB cB a b : Nat} {c : M.Cl} {L W : Int} (h : WS w dB sB mB n d tB cB a b c L W) :
    Calls Tryz.prog 29 #[.pointer (some ⟨tB, 1, none⟩), .int .i64 W] w fun e w' => e = .returned (.tuple #[]) ∧ WS w' dB sB mB n d tB cB a b c W W ∧ But [tB] w w' := by
  have hw := h.wt
  refine (set_at h.q1 (h.fz 1) W (by omega)).mono ?_
  rintro e w' ⟨rfl, rfl⟩
  exact ⟨rfl, h.set (by omega), (But.refl _ w).set _ (.inl (by simp))⟩

set_option maxHeartbeats 2000000 in
theorem wopen_yes (w : World) (h : DevAt w dB sB mB n d) (hdead : d.dead = false) {a b : Nat} (hab : a ≠ b ∧ a < n ∧ b < n) {W : Int} (hW : 1 ≤ W ∧ W ≤ 1099511627776) :
    Calls Tryz.prog 7 #[.pointer (some ⟨dB, 0, none⟩), .int .i64 (a : Int), .int .i64 (b : Int), .int .i64 W] w fun e w' => ∃ tB cB, e = .returned (.tuple #[.pointer (some ⟨tB, 0, none⟩), .int .i64 0]) ∧ w.heap.size ≤ tB ∧ w.heap.size ≤ cB ∧
      WS w' dB sB mB n d tB cB a b (there d a b) W W ∧ Below w.heap.size w w' := by
  have HW := Lib.hid (fun w' => within_any W 1 1099511627776 w')
  rw [show (decide (1 ≤ W) && decide (W ≤ 1099511627776)) = true by rw [decide_eq_true hW.1, decide_eq_true hW.2]; rfl] at HW
  have HO := Lib.hid (open_yes w h hdead a b hab.1 hab.2.1 hab.2.2)
  have HN := Lib.hid (fun (w2 : World) (cB : Nat) => @ws_new dB sB mB n d w w2 h a b cB W hab hW)
  have HWs := Lib.hid hW
  clear h hdead hab hW
  go_enter Tryz.func7, Tryz.ntmps7
  go_wp2_with (first
    | (go_at_call 27; with_reducible refine (HW.out _).mono ?_; rintro e w1 ⟨rfl, rfl⟩)
    | (go_at_call 28; with_reducible refine HO.out.mono ?_; rintro e w2 ⟨cB, rfl, hc1, hc2, hb2⟩
       have HT := Lib.hid (HN.out w2 cB hc1 hc2 hb2)
       have HB2 := Lib.hid hb2
       have hcg := Lib.hid hc1
       have HSet := Lib.hid (set_ws2 HT.out)
       clear hc1 hc2 hb2)
    | (go_at_call 29; with_reducible refine HSet.out.mono ?_; rintro e w3 ⟨rfl, hs3, hb3⟩))
  go_ret2
  have hB3 := HB2.out.alloc HB2.out.size (.cells #[.pointer (some ⟨cB, 0, none⟩), .int .i64 0, .int .i64 W] 73)
  exact ⟨w2.heap.size, cB, rfl, HB2.out.size, hcg.out, hs3, hB3.trans (hb3.to_below (by simp; exact HB2.out.size) hB3.size)⟩
theorem there_fresh (a b : Nat) : there M.fresh a b = M.none0 := by unfold there; rw [fresh_seen, fresh_seen, found_zero]
theorem fi_opened {n a b : Nat} {d : M.Dv} {c : M.Cl} (h : FI n a b d c) (hd : d.dead = false) : there d a b = c := h.there hd
end Go.Proofs.YtpoolpckabpnfaaGreat.Wt
namespace Go.Proofs.YtpoolpckabpnfaaGreat.Wt
open Go.RowKit
open Ml (Mg may msgV MB)
set_option linter.unusedVariables false
set_option linter.unusedSimpArgs false
set_option maxRecDepth 20000

section
variable {n a b : Nat} {d : M.Dv} {c : M.Cl} {L W fr : Int} {m : Mg}
/-- a message for which nothing is put -/
theorem tak_none {e : Int} (hc : can fr m = true) (hp : takP (fx c.text) L fr m = (e, none)) (he : e ≠ 30) :
    takA n a b d c L fr m = ansA (fx c.text) m e ∧ takI n a b d c L fr m = true ∧ takD n a b d c L fr m = d ∧ takC n a b d c L fr m = c ∧ takL n a b d c L W fr m = if m.kind = 1 ∧ e = 0 then W else L := by
  have e0 : takE n a b d c L fr m = e := by unfold takE; rw [hp]; rfl
  have e1 : takI n a b d c L fr m = true := by unfold takI; rw [hc, e0, decide_eq_false he]; rfl
  have e2 : takD n a b d c L fr m = d := by unfold takD; rw [if_pos hc, hp]; rfl
  have e3 : takC n a b d c L fr m = c := by unfold takC; rw [if_pos hc, hp]; rfl
  refine ⟨by unfold takA; rw [if_pos e1, e3, e0], e1, e2, e3, ?_⟩
  unfold takL
  rw [hc, e0]
  simp
/-- .. for which something is put -/
theorem FR.puts {g : Int} (h : FR n a b g d c) (hg : g < 4611686018427387904) {e : Int} {y : Fx} (hc : can fr m = true) (hp : takP (fx c.text) L fr m = (e, some y)) :
    takA n a b d c L fr m = ansA y m 0 ∧ takI n a b d c L fr m = true ∧ FR n a b (g + 1) (takD n a b d c L fr m) (takC n a b d c L fr m) ∧ fx (takC n a b d c L fr m).text = y ∧ takL n a b d c L W fr m = if m.kind = 1 then W else L := by
  obtain ⟨t1, _, t3, _⟩ := h.take hg L fr m
  obtain ⟨e0, e3⟩ := t3 y hc (by rw [hp])
  have e1 : takI n a b d c L fr m = true := by unfold takI; rw [hc, e0]; rfl
  refine ⟨by unfold takA; rw [if_pos e1, e3, e0], e1, t1, e3, ?_⟩
  unfold takL
  rw [hc, e0]
  simp
theorem tak_no (hc : can fr m = false) : takA n a b d c L fr m = Ml.nil ∧ takI n a b d c L fr m = false ∧ takD n a b d c L fr m = d ∧ takC n a b d c L fr m = c ∧ takL n a b d c L W fr m = L := by
  have e1 : takI n a b d c L fr m = false := by unfold takI; rw [hc]; rfl
  exact ⟨by unfold takA; rw [e1]; rfl, e1, by unfold takD; rw [if_neg (by simp [hc])], by unfold takC; rw [if_neg (by simp [hc])], by unfold takL; rw [if_neg (by simp [hc])]⟩
end

/-- boxes of messages that lie beside a witness -/
structure AB (w0 w : World) (O : List Nat) (l : List (Nat × Mg)) : Prop where
  bo : ∀ p ∈ l, MB w p.1 p.2 ∧ w0.heap.size ≤ p.1
  bu : But O w0 w
theorem AB.but {w0 w w' : World} {O : List Nat} {l : List (Nat × Mg)} (h : AB w0 w O l) (hO : ∀ b, w0.heap.size ≤ b → b ∉ O) (hb : But O w w') : AB w0 w' O l :=
  ⟨fun p hp => ⟨mb_but (h.bo p hp).1 hb (hO _ (h.bo p hp).2), (h.bo p hp).2⟩, h.bu.trans hb⟩
theorem AB.below {w0 w w' : World} {O : List Nat} {l : List (Nat × Mg)} (h : AB w0 w O l) (hb : Below w.heap.size w w') : AB w0 w' O l :=
  ⟨fun p hp => ⟨(h.bo p hp).1.below hb (h.bo p hp).1.lt, (h.bo p hp).2⟩, h.bu.trans ((But.of_below hb).mono (by simp))⟩
theorem AB.add {w0 w : World} {O : List Nat} {l : List (Nat × Mg)} (h : AB w0 w O l) (m : Mg) : AB w0 (w.alloc (.cells m.cells 37)) O ((w.heap.size, m) :: l) :=
  ⟨fun p hp => by
    rcases List.mem_cons.1 hp with rfl | hp
    · exact ⟨MB.new w m, h.bu.size⟩
    · exact (h.below ((Below.refl _ _).alloc (Nat.le_refl _) _)).bo p hp, h.bu.trans ((But.of_below ((Below.refl _ _).alloc (Nat.le_refl _) _)).mono (by simp))⟩


set_option maxHeartbeats 8000000 in
theorem awake_any (w : World) : Calls Tryz.prog 4 #[] w fun e w' => e = .returned (.bool true) ∧ Below w.heap.size w w' := by
  have hN := new_yes 2 (by omega) w
  rw [show ((2 : Nat) : Int) = 2 from rfl] at hN
  have HN := Lib.hid hN
  clear hN
  have HO : Hid (∀ w' dB sB mB, DevAt w' dB sB mB 2 M.fresh → Calls Tryz.prog 7 #[.pointer (some ⟨dB, 0, none⟩), .int .i64 0, .int .i64 1, .int .i64 2] w' fun e w'' => ∃ tB cB, e = .returned (.tuple #[.pointer (some ⟨tB, 0, none⟩), .int .i64 0]) ∧ w'.heap.size ≤ tB ∧ w'.heap.size ≤ cB ∧ WS w'' dB sB mB 2 M.fresh tB cB 0 1 M.none0 2 2 ∧ Below w'.heap.size w' w'') := Lib.hid fun w' dB sB mB h => by
    have := wopen_yes w' h rfl (a := 0) (b := 1) (by omega) (W := 2) (by omega)
    rw [there_fresh] at this
    exact this
  have HX := Lib.hid (fun (w' : World) (p : Addr) => wopen_arg w' p 0 1 0 (by omega))
  have h0 := fr_fresh 2 0 1 (by omega)
  have hx0 : fx M.none0.text = Fx.zero := fx_none0
  -- the second one puts
  obtain ⟨p1, p2, p3, p4, p5⟩ := @FR.puts 2 0 1 M.fresh M.none0 0 2 0 ⟨1, 0, 0, 0, 0, 0, 0, 0, 0, 0, 0, ⟨#[]⟩, ⟨#[]⟩⟩ 0 h0 (by omega) 0 ⟨1, 0, 3, 0⟩ (by decide +kernel) (by rw [hx0]; decide +kernel)
  obtain ⟨d1, hd1⟩ : ∃ d', d' = takD 2 0 1 M.fresh M.none0 0 0 ⟨1, 0, 0, 0, 0, 0, 0, 0, 0, 0, 0, ⟨#[]⟩, ⟨#[]⟩⟩ := ⟨_, rfl⟩
  obtain ⟨c1, hc1⟩ : ∃ c', c' = takC 2 0 1 M.fresh M.none0 0 0 ⟨1, 0, 0, 0, 0, 0, 0, 0, 0, 0, 0, ⟨#[]⟩, ⟨#[]⟩⟩ := ⟨_, rfl⟩
  rw [← hd1, ← hc1] at p3
  rw [← hc1] at p4
  obtain ⟨q1, q2, q3, q4, q5⟩ := @FR.puts 2 0 1 d1 c1 2 2 0 ⟨3, 1, 1, 1, 0, 0, 0, 0, 0, 0, 0, ⟨#[]⟩, ⟨#[]⟩⟩ (0 + 1) p3 (by omega) 0 ⟨1, 0, 1, 1⟩ (by decide +kernel) (by rw [p4]; decide +kernel)
  obtain ⟨d2, hd2⟩ : ∃ d', d' = takD 2 0 1 d1 c1 2 0 ⟨3, 1, 1, 1, 0, 0, 0, 0, 0, 0, 0, ⟨#[]⟩, ⟨#[]⟩⟩ := ⟨_, rfl⟩
  obtain ⟨c2, hc2⟩ : ∃ c', c' = takC 2 0 1 d1 c1 2 0 ⟨3, 1, 1, 1, 0, 0, 0, 0, 0, 0, 0, ⟨#[]⟩, ⟨#[]⟩⟩ := ⟨_, rfl⟩
  rw [← hd2, ← hc2] at q3
  rw [← hc2] at q4
  have HT1 : Hid (∀ w' dB sB mB tB cB, WS w' dB sB mB 2 M.fresh tB cB 0 1 M.none0 2 2 → Calls Tryz.prog 10 #[.pointer (some ⟨tB, 0, none⟩), .int .i64 0, .agg #[.int .i64 1, .int .i64 0, .int .i64 0, .int .i64 0, .int .i64 0, .int .i64 0, .int .i64 0, .int .i64 0, .int .i64 0, .int .i64 0, .int .i64 0, .string ⟨#[]⟩, .string ⟨#[]⟩]] w' fun e w'' => e = .returned (.tuple #[.agg #[.int .i64 2, .int .i64 0, .int .i64 3, .int .i64 0, .int .i64 (-1), .int .i64 (-1), .int .i64 25, .int .i64 0, .int .i64 0, .int .i64 0, .int .i64 0, .string ⟨#[]⟩, .string ⟨#[]⟩], .bool true]) ∧ WS w'' dB sB mB 2 M.fresh tB cB 0 1 M.none0 2 2 ∧ But (ours dB sB mB cB tB) w' w'') := Lib.hid fun w' dB sB mB tB cB h => by
    obtain ⟨z1, z2, z3, z4, z5⟩ := @tak_none 2 0 1 M.fresh M.none0 2 2 0 ⟨1, 0, 0, 0, 0, 0, 0, 0, 0, 0, 0, ⟨#[]⟩, ⟨#[]⟩⟩ 25 (by decide +kernel) (by rw [hx0]; decide +kernel) (by decide)
    rw [hx0] at z1
    have := take_any w' h 0 ⟨1, 0, 0, 0, 0, 0, 0, 0, 0, 0, 0, ⟨#[]⟩, ⟨#[]⟩⟩
    rw [z1, z2, z3, z4, z5] at this
    exact this
  have HT2 : Hid (∀ w' dB sB mB tB cB, WS w' dB sB mB 2 M.fresh tB cB 0 1 M.none0 0 2 → Calls Tryz.prog 10 #[.pointer (some ⟨tB, 0, none⟩), .int .i64 0, .agg #[.int .i64 1, .int .i64 0, .int .i64 0, .int .i64 0, .int .i64 0, .int .i64 0, .int .i64 0, .int .i64 0, .int .i64 0, .int .i64 0, .int .i64 0, .string ⟨#[]⟩, .string ⟨#[]⟩]] w' fun e w'' => e = .returned (.tuple #[.agg #[.int .i64 2, .int .i64 1, .int .i64 3, .int .i64 0, .int .i64 (-1), .int .i64 0, .int .i64 0, .int .i64 0, .int .i64 0, .int .i64 0, .int .i64 0, .string ⟨#[]⟩, .string ⟨#[]⟩], .bool true]) ∧ WS w'' dB sB mB 2 d1 tB cB 0 1 c1 2 2 ∧ But (ours dB sB mB cB tB) w' w'') := Lib.hid fun w' dB sB mB tB cB h => by
    have := take_any w' h 0 ⟨1, 0, 0, 0, 0, 0, 0, 0, 0, 0, 0, ⟨#[]⟩, ⟨#[]⟩⟩
    rw [p1, p2, ← hd1, ← hc1, p5] at this
    exact this
  have HT3 : Hid (∀ w' dB sB mB tB cB, WS w' dB sB mB 2 d1 tB cB 0 1 c1 2 2 → Calls Tryz.prog 10 #[.pointer (some ⟨tB, 0, none⟩), .int .i64 1, .agg #[.int .i64 1, .int .i64 0, .int .i64 0, .int .i64 0, .int .i64 0, .int .i64 0, .int .i64 0, .int .i64 0, .int .i64 0, .int .i64 0, .int .i64 0, .string ⟨#[]⟩, .string ⟨#[]⟩]] w' fun e w'' => e = .returned (.tuple #[.agg #[.int .i64 2, .int .i64 1, .int .i64 3, .int .i64 0, .int .i64 (-1), .int .i64 0, .int .i64 25, .int .i64 0, .int .i64 0, .int .i64 0, .int .i64 0, .string ⟨#[]⟩, .string ⟨#[]⟩], .bool true]) ∧ WS w'' dB sB mB 2 d1 tB cB 0 1 c1 2 2 ∧ But (ours dB sB mB cB tB) w' w'') := Lib.hid fun w' dB sB mB tB cB h => by
    obtain ⟨z1, z2, z3, z4, z5⟩ := @tak_none 2 0 1 d1 c1 2 2 1 ⟨1, 0, 0, 0, 0, 0, 0, 0, 0, 0, 0, ⟨#[]⟩, ⟨#[]⟩⟩ 25 (by decide +kernel) (by rw [p4]; decide +kernel) (by decide)
    rw [p4] at z1
    have := take_any w' h 1 ⟨1, 0, 0, 0, 0, 0, 0, 0, 0, 0, 0, ⟨#[]⟩, ⟨#[]⟩⟩
    rw [z1, z2, z3, z4, z5] at this
    exact this
  have HT4 : Hid (∀ w' dB sB mB tB cB, WS w' dB sB mB 2 d1 tB cB 0 1 c1 2 2 → Calls Tryz.prog 10 #[.pointer (some ⟨tB, 0, none⟩), .int .i64 0, .agg #[.int .i64 3, .int .i64 1, .int .i64 1, .int .i64 1, .int .i64 0, .int .i64 0, .int .i64 0, .int .i64 0, .int .i64 0, .int .i64 0, .int .i64 0, .string ⟨#[]⟩, .string ⟨#[]⟩]] w' fun e w'' => e = .returned (.tuple #[.agg #[.int .i64 3, .int .i64 1, .int .i64 1, .int .i64 1, .int .i64 (-1), .int .i64 0, .int .i64 0, .int .i64 0, .int .i64 0, .int .i64 0, .int .i64 0, .string ⟨#[]⟩, .string ⟨#[]⟩], .bool true]) ∧ WS w'' dB sB mB 2 d2 tB cB 0 1 c2 2 2 ∧ But (ours dB sB mB cB tB) w' w'') := Lib.hid fun w' dB sB mB tB cB h => by
    have := take_any w' h 0 ⟨3, 1, 1, 1, 0, 0, 0, 0, 0, 0, 0, ⟨#[]⟩, ⟨#[]⟩⟩
    rw [q1, q2, ← hd2, ← hc2, q5] at this
    exact this
  have HT5 : Hid (∀ w' dB sB mB tB cB, WS w' dB sB mB 2 d2 tB cB 0 1 c2 2 2 → Calls Tryz.prog 10 #[.pointer (some ⟨tB, 0, none⟩), .int .i64 1, .agg #[.int .i64 1, .int .i64 0, .int .i64 0, .int .i64 0, .int .i64 0, .int .i64 0, .int .i64 0, .int .i64 0, .int .i64 0, .int .i64 0, .int .i64 0, .string ⟨#[]⟩, .string ⟨#[]⟩]] w' fun e w'' => e = .returned (.tuple #[.agg #[.int .i64 2, .int .i64 1, .int .i64 1, .int .i64 0, .int .i64 (-1), .int .i64 0, .int .i64 20, .int .i64 0, .int .i64 0, .int .i64 0, .int .i64 0, .string ⟨#[]⟩, .string ⟨#[]⟩], .bool true]) ∧ WS w'' dB sB mB 2 d2 tB cB 0 1 c2 2 2 ∧ But (ours dB sB mB cB tB) w' w'') := Lib.hid fun w' dB sB mB tB cB h => by
    obtain ⟨z1, z2, z3, z4, z5⟩ := @tak_none 2 0 1 d2 c2 2 2 1 ⟨1, 0, 0, 0, 0, 0, 0, 0, 0, 0, 0, ⟨#[]⟩, ⟨#[]⟩⟩ 20 (by decide +kernel) (by rw [q4]; decide +kernel) (by decide)
    rw [q4] at z1
    have := take_any w' h 1 ⟨1, 0, 0, 0, 0, 0, 0, 0, 0, 0, 0, ⟨#[]⟩, ⟨#[]⟩⟩
    rw [z1, z2, z3, z4, z5] at this
    exact this
  have HT6 : Hid (∀ w' dB sB mB tB cB, WS w' dB sB mB 2 d2 tB cB 0 1 c2 2 2 → Calls Tryz.prog 10 #[.pointer (some ⟨tB, 0, none⟩), .int .i64 2, .agg #[.int .i64 1, .int .i64 0, .int .i64 0, .int .i64 0, .int .i64 0, .int .i64 0, .int .i64 0, .int .i64 0, .int .i64 0, .int .i64 0, .int .i64 0, .string ⟨#[]⟩, .string ⟨#[]⟩]] w' fun e w'' => e = .returned (.tuple #[.agg #[.int .i64 0, .int .i64 0, .int .i64 0, .int .i64 0, .int .i64 0, .int .i64 0, .int .i64 0, .int .i64 0, .int .i64 0, .int .i64 0, .int .i64 0, .string ⟨#[]⟩, .string ⟨#[]⟩], .bool false]) ∧ WS w'' dB sB mB 2 d2 tB cB 0 1 c2 2 2 ∧ But (ours dB sB mB cB tB) w' w'') := Lib.hid fun w' dB sB mB tB cB h => by
    obtain ⟨z1, z2, z3, z4, z5⟩ := @tak_no 2 0 1 d2 c2 2 2 2 ⟨1, 0, 0, 0, 0, 0, 0, 0, 0, 0, 0, ⟨#[]⟩, ⟨#[]⟩⟩ (by decide +kernel)
    have := take_any w' h 2 ⟨1, 0, 0, 0, 0, 0, 0, 0, 0, 0, 0, ⟨#[]⟩, ⟨#[]⟩⟩
    rw [z1, z2, z3, z4, z5] at this
    exact this
  have HK1 : Hid (∀ w' dB sB mB tB cB, WS w' dB sB mB 2 M.fresh tB cB 0 1 M.none0 2 2 → Calls Tryz.prog 12 #[.pointer (some ⟨tB, 0, none⟩)] w' fun e w'' => e = .returned (.tuple #[]) ∧ WS w'' dB sB mB 2 M.fresh tB cB 0 1 M.none0 1 2 ∧ But (ours dB sB mB cB tB) w' w'') := Lib.hid fun w' dB sB mB tB cB h => tick_any h
  have HK2 : Hid (∀ w' dB sB mB tB cB, WS w' dB sB mB 2 M.fresh tB cB 0 1 M.none0 1 2 → Calls Tryz.prog 12 #[.pointer (some ⟨tB, 0, none⟩)] w' fun e w'' => e = .returned (.tuple #[]) ∧ WS w'' dB sB mB 2 M.fresh tB cB 0 1 M.none0 0 2 ∧ But (ours dB sB mB cB tB) w' w'') := Lib.hid fun w' dB sB mB tB cB h => tick_any h
  have HGE : Hid (∀ w' dB sB mB tB cB, WS w' dB sB mB 2 d2 tB cB 0 1 c2 2 2 → Calls Tryz.prog 21 #[.pointer (some ⟨tB, 0, none⟩)] w' fun e w'' => e = .returned (.int .i64 1) ∧ Below w'.heap.size w' w'') := Lib.hid fun w' dB sB mB tB cB h => by
    have := epoch_any w' h
    rw [q4] at this
    exact this
  have HGH : Hid (∀ w' dB sB mB tB cB, WS w' dB sB mB 2 d2 tB cB 0 1 c2 2 2 → Calls Tryz.prog 22 #[.pointer (some ⟨tB, 0, none⟩)] w' fun e w'' => e = .returned (.int .i64 0) ∧ Below w'.heap.size w' w'') := Lib.hid fun w' dB sB mB tB cB h => by
    have := holder_any w' h
    rw [q4] at this
    exact this
  have HGM : Hid (∀ w' dB sB mB tB cB, WS w' dB sB mB 2 d2 tB cB 0 1 c2 2 2 → Calls Tryz.prog 23 #[.pointer (some ⟨tB, 0, none⟩)] w' fun e w'' => e = .returned (.int .i64 1) ∧ Below w'.heap.size w' w'') := Lib.hid fun w' dB sB mB tB cB h => by
    have := mask_any w' h
    rw [q4] at this
    exact this
  have HGL : Hid (∀ w' dB sB mB tB cB, WS w' dB sB mB 2 d2 tB cB 0 1 c2 2 2 → Calls Tryz.prog 24 #[.pointer (some ⟨tB, 0, none⟩)] w' fun e w'' => e = .returned (.int .i64 2) ∧ w' = w'') := Lib.hid fun w' dB sB mB tB cB h => left_any h
  clear h0 hx0 p1 p2 p3 p4 p5 q1 q2 q3 q4 q5 hd1 hc1 hd2 hc2
  go_enter Tryz.func4, Tryz.ntmps4
  go_wp2_with (first
    | (go_at_call 5; with_reducible refine HN.out.mono ?_; rintro e w1 ⟨dB, sB, mB, rfl, hd, hb1, hg⟩
       have HD := Lib.hid hd
       have HB1 := Lib.hid hb1
       have HG1 := Lib.hid hg
       clear hd hb1 hg)
    | (go_at_call 7; with_reducible refine (HO.out _ _ _ _ HD.out).mono ?_; rintro e w2 ⟨tB, cB, rfl, h1, h2, h3, hb2⟩
       have S0 := Lib.hid h3
       have HG2 : Hid (∀ b ∈ ours dB sB mB cB tB, w.heap.size ≤ b) := Lib.hid fun b hx => by
         have := HB1.out.size
         have := HG1.out
         rcases mem_ours.1 hx with rfl | rfl | rfl | rfl | rfl <;> omega
       have HB2 := Lib.hid (HB1.out.trans (hb2.mono HB1.out.size))
       clear h1 h2 h3 hb2)
    | (go_at_call 7; with_reducible refine (HX.out _ _).mono ?_; rintro e w3 ⟨rfl, rfl⟩
       have HI : Hid (∀ b, w2.heap.size ≤ b → b ∉ ours dB sB mB cB tB) := Lib.hid fun b hb => S0.out.not_mem hb
       have F0 := Lib.hid ((⟨by simp, But.refl _ _⟩ : AB w2 w2 (ours dB sB mB cB tB) []).add ⟨1, 0, 0, 0, 0, 0, 0, 0, 0, 0, 0, ⟨#[]⟩, ⟨#[]⟩⟩)
       have S1 := Lib.hid (S0.out.below ((Below.refl w2.heap.size w2).alloc (Nat.le_refl _) (.cells #[.int .i64 1, .int .i64 0, .int .i64 0, .int .i64 0, .int .i64 0, .int .i64 0, .int .i64 0, .int .i64 0, .int .i64 0, .int .i64 0, .int .i64 0, .string ⟨#[]⟩, .string ⟨#[]⟩] 37)))
       clear S0)
    | (go_at_call 10; with_reducible refine (HT1.out _ _ _ _ _ _ S1.out).mono ?_; rintro e w4 ⟨rfl, hs, hb⟩
       have S2 := Lib.hid (hs.below ((Below.refl w4.heap.size w4).alloc (Nat.le_refl _) (.cells #[.int .i64 2, .int .i64 0, .int .i64 3, .int .i64 0, .int .i64 (-1), .int .i64 (-1), .int .i64 25, .int .i64 0, .int .i64 0, .int .i64 0, .int .i64 0, .string ⟨#[]⟩, .string ⟨#[]⟩] 37)))
       have F1 := Lib.hid ((F0.out.but HI.out hb).add ⟨2, 0, 3, 0, -1, -1, 25, 0, 0, 0, 0, ⟨#[]⟩, ⟨#[]⟩⟩)
       clear hs hb 
       obtain ⟨c0, c1, c2, c3, c4, c5, c6, c7, c8, c9, c10, c11, c12⟩ := (F1.out.bo (w2.heap.size, ⟨1, 0, 0, 0, 0, 0, 0, 0, 0, 0, 0, ⟨#[]⟩, ⟨#[]⟩⟩) (by simp)).1.cells
       simp only [Mg.cells] at c0 c1 c2 c3 c4 c5 c6 c7 c8 c9 c10 c11 c12)
    | (go_at_call 12; with_reducible refine (HK1.out _ _ _ _ _ _ S2.out).mono ?_; rintro e w5 ⟨rfl, hs, hb⟩
       have S3 := Lib.hid hs
       have F2 := Lib.hid (F1.out.but HI.out hb)
       clear hs hb c0 c1 c2 c3 c4 c5 c6 c7 c8 c9 c10 c11 c12
       obtain ⟨c0, c1, c2, c3, c4, c5, c6, c7, c8, c9, c10, c11, c12⟩ := (F2.out.bo (w2.heap.size, ⟨1, 0, 0, 0, 0, 0, 0, 0, 0, 0, 0, ⟨#[]⟩, ⟨#[]⟩⟩) (by simp)).1.cells
       simp only [Mg.cells] at c0 c1 c2 c3 c4 c5 c6 c7 c8 c9 c10 c11 c12)
    | (go_at_call 12; with_reducible refine (HK2.out _ _ _ _ _ _ S3.out).mono ?_; rintro e w6 ⟨rfl, hs, hb⟩
       have S4 := Lib.hid hs
       have F3 := Lib.hid (F2.out.but HI.out hb)
       clear hs hb c0 c1 c2 c3 c4 c5 c6 c7 c8 c9 c10 c11 c12
       obtain ⟨c0, c1, c2, c3, c4, c5, c6, c7, c8, c9, c10, c11, c12⟩ := (F3.out.bo (w2.heap.size, ⟨1, 0, 0, 0, 0, 0, 0, 0, 0, 0, 0, ⟨#[]⟩, ⟨#[]⟩⟩) (by simp)).1.cells
       simp only [Mg.cells] at c0 c1 c2 c3 c4 c5 c6 c7 c8 c9 c10 c11 c12)
    | (go_at_call 10; with_reducible refine (HT2.out _ _ _ _ _ _ S4.out).mono ?_; rintro e w7 ⟨rfl, hs, hb⟩
       have S5 := Lib.hid (hs.below ((Below.refl w7.heap.size w7).alloc (Nat.le_refl _) (.cells #[.int .i64 2, .int .i64 1, .int .i64 3, .int .i64 0, .int .i64 (-1), .int .i64 0, .int .i64 0, .int .i64 0, .int .i64 0, .int .i64 0, .int .i64 0, .string ⟨#[]⟩, .string ⟨#[]⟩] 37)))
       have F4 := Lib.hid ((F3.out.but HI.out hb).add ⟨2, 1, 3, 0, -1, 0, 0, 0, 0, 0, 0, ⟨#[]⟩, ⟨#[]⟩⟩)
       clear hs hb c0 c1 c2 c3 c4 c5 c6 c7 c8 c9 c10 c11 c12
       obtain ⟨c0, c1, c2, c3, c4, c5, c6, c7, c8, c9, c10, c11, c12⟩ := (F4.out.bo (w2.heap.size, ⟨1, 0, 0, 0, 0, 0, 0, 0, 0, 0, 0, ⟨#[]⟩, ⟨#[]⟩⟩) (by simp)).1.cells
       simp only [Mg.cells] at c0 c1 c2 c3 c4 c5 c6 c7 c8 c9 c10 c11 c12)
    | (go_at_call 10; with_reducible refine (HT3.out _ _ _ _ _ _ S5.out).mono ?_; rintro e w8 ⟨rfl, hs, hb⟩
       have S6 := Lib.hid (hs.below ((Below.refl w8.heap.size w8).alloc (Nat.le_refl _) (.cells #[.int .i64 2, .int .i64 1, .int .i64 3, .int .i64 0, .int .i64 (-1), .int .i64 0, .int .i64 25, .int .i64 0, .int .i64 0, .int .i64 0, .int .i64 0, .string ⟨#[]⟩, .string ⟨#[]⟩] 37)))
       have F5 := Lib.hid ((F4.out.but HI.out hb).add ⟨2, 1, 3, 0, -1, 0, 25, 0, 0, 0, 0, ⟨#[]⟩, ⟨#[]⟩⟩)
       clear hs hb c0 c1 c2 c3 c4 c5 c6 c7 c8 c9 c10 c11 c12
       obtain ⟨c0, c1, c2, c3, c4, c5, c6, c7, c8, c9, c10, c11, c12⟩ := (F5.out.bo (w2.heap.size, ⟨1, 0, 0, 0, 0, 0, 0, 0, 0, 0, 0, ⟨#[]⟩, ⟨#[]⟩⟩) (by simp)).1.cells
       simp only [Mg.cells] at c0 c1 c2 c3 c4 c5 c6 c7 c8 c9 c10 c11 c12)
    | (go_at_call 10; with_reducible refine (HT4.out _ _ _ _ _ _ S6.out).mono ?_; rintro e w9 ⟨rfl, hs, hb⟩
       have S7 := Lib.hid (hs.below ((Below.refl w9.heap.size w9).alloc (Nat.le_refl _) (.cells #[.int .i64 3, .int .i64 1, .int .i64 1, .int .i64 1, .int .i64 (-1), .int .i64 0, .int .i64 0, .int .i64 0, .int .i64 0, .int .i64 0, .int .i64 0, .string ⟨#[]⟩, .string ⟨#[]⟩] 37)))
       have F6 := Lib.hid ((F5.out.but HI.out hb).add ⟨3, 1, 1, 1, -1, 0, 0, 0, 0, 0, 0, ⟨#[]⟩, ⟨#[]⟩⟩)
       clear hs hb c0 c1 c2 c3 c4 c5 c6 c7 c8 c9 c10 c11 c12
       obtain ⟨c0, c1, c2, c3, c4, c5, c6, c7, c8, c9, c10, c11, c12⟩ := (F6.out.bo (w2.heap.size, ⟨1, 0, 0, 0, 0, 0, 0, 0, 0, 0, 0, ⟨#[]⟩, ⟨#[]⟩⟩) (by simp)).1.cells
       simp only [Mg.cells] at c0 c1 c2 c3 c4 c5 c6 c7 c8 c9 c10 c11 c12)
    | (go_at_call 10; with_reducible refine (HT5.out _ _ _ _ _ _ S7.out).mono ?_; rintro e w10 ⟨rfl, hs, hb⟩
       have S8 := Lib.hid (hs.below ((Below.refl w10.heap.size w10).alloc (Nat.le_refl _) (.cells #[.int .i64 2, .int .i64 1, .int .i64 1, .int .i64 0, .int .i64 (-1), .int .i64 0, .int .i64 20, .int .i64 0, .int .i64 0, .int .i64 0, .int .i64 0, .string ⟨#[]⟩, .string ⟨#[]⟩] 37)))
       have F7 := Lib.hid ((F6.out.but HI.out hb).add ⟨2, 1, 1, 0, -1, 0, 20, 0, 0, 0, 0, ⟨#[]⟩, ⟨#[]⟩⟩)
       clear hs hb c0 c1 c2 c3 c4 c5 c6 c7 c8 c9 c10 c11 c12
       obtain ⟨c0, c1, c2, c3, c4, c5, c6, c7, c8, c9, c10, c11, c12⟩ := (F7.out.bo (w2.heap.size, ⟨1, 0, 0, 0, 0, 0, 0, 0, 0, 0, 0, ⟨#[]⟩, ⟨#[]⟩⟩) (by simp)).1.cells
       simp only [Mg.cells] at c0 c1 c2 c3 c4 c5 c6 c7 c8 c9 c10 c11 c12)
    | (go_at_call 10; with_reducible refine (HT6.out _ _ _ _ _ _ S8.out).mono ?_; rintro e w11 ⟨rfl, hs, hb⟩
       have S9 := Lib.hid (hs.below ((Below.refl w11.heap.size w11).alloc (Nat.le_refl _) (.cells #[.int .i64 0, .int .i64 0, .int .i64 0, .int .i64 0, .int .i64 0, .int .i64 0, .int .i64 0, .int .i64 0, .int .i64 0, .int .i64 0, .int .i64 0, .string ⟨#[]⟩, .string ⟨#[]⟩] 37)))
       have F8 := Lib.hid ((F7.out.but HI.out hb).add ⟨0, 0, 0, 0, 0, 0, 0, 0, 0, 0, 0, ⟨#[]⟩, ⟨#[]⟩⟩)
       clear hs hb c0 c1 c2 c3 c4 c5 c6 c7 c8 c9 c10 c11 c12
       have HFc := F8
       have a6 := (HFc.out.bo (w4.heap.size, ⟨2, 0, 3, 0, -1, -1, 25, 0, 0, 0, 0, ⟨#[]⟩, ⟨#[]⟩⟩) (by simp)).1.cell 6
       have b0 := (HFc.out.bo (w7.heap.size, ⟨2, 1, 3, 0, -1, 0, 0, 0, 0, 0, 0, ⟨#[]⟩, ⟨#[]⟩⟩) (by simp)).1.cell 0
       have b1 := (HFc.out.bo (w7.heap.size, ⟨2, 1, 3, 0, -1, 0, 0, 0, 0, 0, 0, ⟨#[]⟩, ⟨#[]⟩⟩) (by simp)).1.cell 1
       have b6 := (HFc.out.bo (w7.heap.size, ⟨2, 1, 3, 0, -1, 0, 0, 0, 0, 0, 0, ⟨#[]⟩, ⟨#[]⟩⟩) (by simp)).1.cell 6
       have d6 := (HFc.out.bo (w8.heap.size, ⟨2, 1, 3, 0, -1, 0, 25, 0, 0, 0, 0, ⟨#[]⟩, ⟨#[]⟩⟩) (by simp)).1.cell 6
       have e2 := (HFc.out.bo (w9.heap.size, ⟨3, 1, 1, 1, -1, 0, 0, 0, 0, 0, 0, ⟨#[]⟩, ⟨#[]⟩⟩) (by simp)).1.cell 2
       have e6 := (HFc.out.bo (w9.heap.size, ⟨3, 1, 1, 1, -1, 0, 0, 0, 0, 0, 0, ⟨#[]⟩, ⟨#[]⟩⟩) (by simp)).1.cell 6
       have f6 := (HFc.out.bo (w10.heap.size, ⟨2, 1, 1, 0, -1, 0, 20, 0, 0, 0, 0, ⟨#[]⟩, ⟨#[]⟩⟩) (by simp)).1.cell 6
       simp only [Mg.cells, List.getElem?_toArray, List.getElem?_cons_zero, List.getElem?_cons_succ] at a6 b0 b1 b6 d6 e2 e6 f6)
    | (go_at_call 21; with_reducible refine (HGE.out _ _ _ _ _ _ S9.out).mono ?_; rintro e w12 ⟨rfl, hb⟩
       have S10 := Lib.hid (S9.out.below hb)
       have F9 := Lib.hid (F8.out.below hb)
       clear hb)
    | (go_at_call 22; with_reducible refine (HGH.out _ _ _ _ _ _ S10.out).mono ?_; rintro e w13 ⟨rfl, hb⟩
       have S11 := Lib.hid (S10.out.below hb)
       have F10 := Lib.hid (F9.out.below hb)
       clear hb)
    | (go_at_call 23; with_reducible refine (HGM.out _ _ _ _ _ _ S11.out).mono ?_; rintro e w14 ⟨rfl, hb⟩
       have S12 := Lib.hid (S11.out.below hb)
       have F11 := Lib.hid (F10.out.below hb)
       clear hb)
    | (go_at_call 24; with_reducible refine (HGL.out _ _ _ _ _ _ S12.out).mono ?_; rintro e w15 ⟨rfl, rfl⟩))
  go_ret
  exact ⟨rfl, HB2.out.trans (F11.out.bu.to_below HG2.out HB2.out.size)⟩
end Go.Proofs.YtpoolpckabpnfaaGreat.Wt
