/-
  The document's own store: a message is taken.
-/
import Derived.Test.YtofhijnfbilieaaGreatRsSto3
import Derived.Test.YtofhijnfbilieaaGreatRsMay
import Derived.Test.YtofhijnfbilieaaGreatJBC
namespace Go.Proofs.YtofhijnfbilieaaGreat.Bk
open Go.RowKit
open Ml (Mg may msgV)
open C (RecAt RecOwn Own i64s strs)
set_option linter.unusedVariables false
set_option linter.unusedSimpArgs false
set_option maxRecDepth 20000

/-- the bytes of the token's record -/
theorem renc_tok (W : World) (ep : Int) (hep : 0 ≤ ep ∧ ep ≤ big) :
    Calls Tryz.prog 35 #[.agg #[.int .i64 31, .slice (some ⟨W.heap.size, 0, none⟩) 1 1, .slice none 0 0]] (W.alloc (.cells #[.int .i64 ep] 2)) fun e w' =>
      ∃ a n cap, e = .returned (.tuple #[.slice a n cap, .int .i64 0]) ∧ C.Row w' a n cap (C.u8s (C.M.enc (tokRec ep))) ∧ (∀ b off, a = some ⟨b, off, none⟩ → W.heap.size ≤ b) ∧ Below W.heap.size W w' := by
  have h3 := C.refencode_yes _ _ _ _ _ _ _ _ (tok_at W ep) (tok_may hep).1 (tok_may hep).2
  refine Calls.mono h3 ?_
  rintro e w' ⟨a, cap, rfl, ho, hb⟩
  have hb0 : Below W.heap.size W (W.alloc (.cells #[.int .i64 ep] 2)) := (Below.refl _ _).alloc (Nat.le_refl _) _
  exact ⟨a, _, cap, rfl, (C.own_row ho).1, fun b off hq => Nat.le_trans hb0.size ((C.own_row ho).2 b off hq).1, hb0.trans (hb.mono hb0.size)⟩

/-- the boxes of a message and its answer -/
structure TK (w : World) (l : List Nat) (W : World) (A : Nat) (m a : Mg) : Prop where
  mb : Ml.MB W w.heap.size m
  zb : Ml.MB W (w.heap.size + 1) Ml.nil
  ab : Ml.MB W A a
  bu : But l w W
  lo : w.heap.size + 2 ≤ A
  nt : ∀ x ∈ l, x < w.heap.size
section
variable {w W W' : World} {l : List Nat} {A : Nat} {m a : Mg}
theorem TK.start {w1 : World} (hn : ∀ x ∈ l, x < w.heap.size) (hb1 : Below ((w.alloc (.cells m.cells 37)).alloc (.cells Ml.nil.cells 37)).heap.size ((w.alloc (.cells m.cells 37)).alloc (.cells Ml.nil.cells 37)) w1) (a : Mg) :
    TK w l (w1.alloc (.cells a.cells 37)) w1.heap.size m a := by
  obtain ⟨h1, h2, h3, h4, h5⟩ := tak_start hb1 (Below.refl _ _) a
  exact ⟨h1, h2, h3, (But.of_below h4).mono (by simp), h5, hn⟩
theorem TK.below (h : TK w l W A m a) (hb : Below W.heap.size W W') : TK w l W' A m a :=
  ⟨h.mb.below hb h.mb.lt, h.zb.below hb h.zb.lt, h.ab.below hb h.ab.lt, h.bu.trans ((But.of_below hb).mono (by simp)), h.lo, h.nt⟩
theorem TK.but (h : TK w l W A m a) {k : List Nat} (hb : But k W W') (hk : ∀ x ∈ k, x ∈ l) : TK w l W' A m a :=
  have hlo := h.lo
  ⟨MB.but h.mb hb (fun hm => by have := h.nt _ (hk _ hm); omega), MB.but h.zb hb (fun hm => by have := h.nt _ (hk _ hm); omega), MB.but h.ab hb (fun hm => by have := h.nt _ (hk _ hm); omega), h.bu.trans (hb.mono hk), h.lo, h.nt⟩
theorem TK.setE (h : TK w l W A m a) (E : Int) : TK w l (W.setCell ⟨A, 6, none⟩ (.int .i64 E)) A m { a with e := E } :=
  have hlo := h.lo
  ⟨MB.other h.mb (p := ⟨A, 6, none⟩) (by show A ≠ w.heap.size; omega) _, MB.other h.zb (p := ⟨A, 6, none⟩) (by show A ≠ w.heap.size + 1; omega) _, mb_e h.ab E, h.bu.set (p := ⟨A, 6, none⟩) _ (.inr (by show w.heap.size ≤ A; omega)), h.lo, h.nt⟩
theorem TK.setT (h : TK w l W A m a) (X : T4) : TK w l ((((W.setCell ⟨A, 7, none⟩ (.int .i64 X.a)).setCell ⟨A, 8, none⟩ (.int .i64 X.b)).setCell ⟨A, 9, none⟩ (.int .i64 X.c)).setCell ⟨A, 10, none⟩ (.int .i64 X.d)) A m { a with t0 := X.a, t1 := X.b, t2 := X.c, t3 := X.d } :=
  have hlo := h.lo
  have hb : But [A] W ((((W.setCell ⟨A, 7, none⟩ (.int .i64 X.a)).setCell ⟨A, 8, none⟩ (.int .i64 X.b)).setCell ⟨A, 9, none⟩ (.int .i64 X.c)).setCell ⟨A, 10, none⟩ (.int .i64 X.d)) := ((((But.refl [A] W).set _ (.inl (by simp))).set _ (.inl (by simp))).set _ (.inl (by simp))).set _ (.inl (by simp))
  ⟨MB.but h.mb hb (by simp; omega), MB.but h.zb hb (by simp; omega), Bo.set (Bo.set (Bo.set (Bo.set (cs := a.cells) h.ab 7 _) 8 _) 9 _) 10 _,
    (((h.bu.set (p := ⟨A, 7, none⟩) _ (.inr (by show w.heap.size ≤ A; omega))).set (p := ⟨A, 8, none⟩) _ (.inr (by show w.heap.size ≤ A; omega))).set (p := ⟨A, 9, none⟩) _ (.inr (by show w.heap.size ≤ A; omega))).set (p := ⟨A, 10, none⟩) _ (.inr (by show w.heap.size ≤ A; omega)), h.lo, h.nt⟩
theorem TK.setS (h : TK w l W A m a) (s : ByteArray) : TK w l (W.setCell ⟨A, 11, none⟩ (.string s)) A m { a with data := s } :=
  have hlo := h.lo
  ⟨MB.other h.mb (p := ⟨A, 11, none⟩) (by show A ≠ w.heap.size; omega) _, MB.other h.zb (p := ⟨A, 11, none⟩) (by show A ≠ w.heap.size + 1; omega) _, Bo.set (cs := a.cells) h.ab 11 _, h.bu.set (p := ⟨A, 11, none⟩) _ (.inr (by show w.heap.size ≤ A; omega)), h.lo, h.nt⟩
end

section
variable {rB LB n : Nat} {d D : M.Dv} {tR bB cap bl f : Nat} {K : Nat → Nat} {Q : Cs}
/-- a box of the call's own is written -/
theorem RT.own {w W W' : World} {l : List Nat} (h : RT W rB LB n D tR bB cap bl f K Q) (hn : ∀ x ∈ theirs rB LB tR bB bl K, x < w.heap.size) (hb : But l W W') (hl : ∀ x ∈ l, w.heap.size ≤ x) : RT W' rB LB n D tR bB cap bl f K Q :=
  h.but hb fun x hx hm => by have := hl x hx; have := hn x hm; omega
set_option maxHeartbeats 2000000 in
theorem rtake_kind (w : World) (tR : Nat) (m : Mg) (h1 : m.kind ≠ 10) (h2 : m.kind ≠ 12) :
    Calls Tryz.prog 11 #[.pointer (some ⟨tR, 0, none⟩), msgV m] w fun e w' => e = .returned (.tuple #[msgV Ml.nil, .bool false]) ∧ Below w.heap.size w w' := by
  have HX := Lib.hid (tak_boxes w m)
  obtain ⟨kind, epoch, seq, nn, block, client, e, t0, t1, t2, t3, data, row⟩ := m
  simp only at h1 h2
  have h1' : (kind != 10) = true := by rw [bne_iff_ne]; exact h1
  have h2' : (kind != 12) = true := by rw [bne_iff_ne]; exact h2
  clear h1 h2
  have HZ := Lib.hid HX.out.2.1
  have HB := Lib.hid HX.out.2.2
  obtain ⟨z0, z1, z2, z3, z4, z5, z6, z7, z8, z9, z10, z11, z12⟩ := HX.out.2.1.cells
  have zf := HX.out.2.1.fz
  simp only [msgV, Ml.Mg.cells, Ml.nil] at HX HZ HB z0 z1 z2 z3 z4 z5 z6 z7 z8 z9 z10 z11 z12 zf ⊢
  go_enter Tryz.func11, Tryz.ntmps11
  go_wp2
  exact ret_msgT (m := Ml.nil) Tryz.results11 rfl rfl rfl HZ.out ⟨rfl, HB.out⟩

set_option maxHeartbeats 2000000 in
theorem rtake_may (w : World) (tR : Nat) (m : Mg) (h1 : m.kind = 10 ∨ m.kind = 12) (h2 : may m = false) :
    Calls Tryz.prog 11 #[.pointer (some ⟨tR, 0, none⟩), msgV m] w fun e w' => e = .returned (.tuple #[msgV Ml.nil, .bool false]) ∧ Below w.heap.size w w' := by
  have HX := Lib.hid (tak_boxes w m)
  have HMy := Lib.hid (Ml.refmay_any ((w.alloc (.cells m.cells 37)).alloc (.cells Ml.nil.cells 37)) m)
  rw [h2] at HMy
  clear h2
  obtain ⟨kind, epoch, seq, nn, block, client, e, t0, t1, t2, t3, data, row⟩ := m
  have HZ := Lib.hid HX.out.2.1
  have HB := Lib.hid HX.out.2.2
  simp only [msgV, Ml.Mg.cells, Ml.nil] at h1 HX HMy HB ⊢
  rcases h1 with rfl | rfl
  all_goals
    go_enter Tryz.func11, Tryz.ntmps11
    go_upto_region 2 with (first
      | (go_at_call 34; with_reducible refine HMy.out.mono ?_; rintro e1 w1 ⟨rfl, hb1⟩
         have HB1 := Lib.hid (HB.out.trans (hb1.mono HB.out.size))
         have HZ1 := Lib.hid (HZ.out.below hb1 HZ.out.lt)
         clear hb1))
    obtain ⟨z0, z1, z2, z3, z4, z5, z6, z7, z8, z9, z10, z11, z12⟩ := HZ1.out.cells
    have zf := HZ1.out.fz
    simp only [Ml.nil] at z0 z1 z2 z3 z4 z5 z6 z7 z8 z9 z10 z11 z12
    go_wp2
    exact ret_msgT (m := Ml.nil) Tryz.results11 rfl rfl rfl (Ml.mb_set' HZ1.out) ⟨rfl, Ml.sets_below (o := 0) HB1.out Ml.nil.cells.toList (Nat.le_succ _)⟩

set_option maxHeartbeats 4000000 in
theorem rtake_old10 (w : World) (h : RT w rB LB n d tR bB cap bl f K Q) (m : Mg) (hm : may m = true) (hk : m.kind = 10) (ht : m.epoch < token Q) :
    Calls Tryz.prog 11 #[.pointer (some ⟨tR, 0, none⟩), msgV m] w fun e w' => e = .returned (.tuple #[msgV ⟨11, m.epoch, m.seq, m.n, m.block, -1, 24, 0, 0, 0, 0, ⟨#[]⟩, ⟨#[]⟩⟩, .bool true]) ∧ RT w' rB LB n d tR bB cap bl f K Q ∧ But (theirs rB LB tR bB bl K) w w' := by
  have HMy := Lib.hid (Ml.refmay_any ((w.alloc (.cells m.cells 37)).alloc (.cells Ml.nil.cells 37)) m)
  rw [hm] at HMy
  have hep : 0 ≤ m.epoch ∧ m.epoch ≤ big := ((Ml.may_iff m).1 hm).2.1
  have hg0 := (h.rc.gn 0 (Nat.zero_le _)).2
  have HNt := Lib.hid h.lts
  have HR0 := Lib.hid h
  have HX := Lib.hid (fun w1 => @TK.start w (theirs rB LB tR bB bl K) m w1 h.lts)
  have HX0 := Lib.hid (tak_boxes w m).1
  have HX1 : Hid (∀ w1, Below ((w.alloc (.cells m.cells 37)).alloc (.cells Ml.nil.cells 37)).heap.size ((w.alloc (.cells m.cells 37)).alloc (.cells Ml.nil.cells 37)) w1 → Below w.heap.size w w1) := Lib.hid fun w1 hb => (tak_boxes w m).2.2.trans (hb.mono (tak_boxes w m).2.2.size)
  have HEn : Hid (∀ W : World, Calls Tryz.prog 35 _ _ _) := Lib.hid fun W => renc_tok W m.epoch hep
  have HPu : Hid (∀ w', RC w' rB LB n d bl f K Q → Calls Tryz.prog 36 _ w' _) := Lib.hid fun w' h => rput_rc w' h 0 (Nat.zero_le _) (tokT m.epoch) (tokT_small m.epoch)
  have HE1 : Hid (putE n f d Q 0 (tokT m.epoch) = 0 → token (putC n f d Q 0 (tokT m.epoch)) = m.epoch ∧ (∀ j, blk (putC n f d Q 0 (tokT m.epoch)) j = blk Q j) ∧ tab (putC n f d Q 0 (tokT m.epoch)) bl = tab Q bl) := Lib.hid fun h0 => by
    obtain ⟨g1, g2⟩ := put_token (n := n) (f := f) (d := d) hg0 hep
    rw [if_pos h0] at g1
    exact ⟨g1, g2, rtab_same g2 bl⟩
  have HE2 : Hid (putE n f d Q 0 (tokT m.epoch) ≠ 0 → putC n f d Q 0 (tokT m.epoch) = Q) := Lib.hid fun h0 => by
    rcases putC_ways n f d Q 0 (tokT m.epoch) hg0 with ⟨g1, _⟩ | ⟨_, g2⟩
    · exact absurd g1 h0
    · exact g2
  have hstT : tokT m.epoch = C.str (C.M.enc (tokRec m.epoch)) := rfl
  have HTd := Lib.hid (And.intro h.td h.tk)
  have HK0 : Hid ((∀ y ∈ [rB, LB, K 0], y ∈ theirs rB LB tR bB bl K) ∧ (∀ y ∈ [rB, LB, K 0], y ≠ tR ∧ y ≠ bB) ∧ tR ∈ theirs rB LB tR bB bl K) := Lib.hid (by
    have h2 := h.td
    have h3 := h.tk 0 (Nat.zero_le _)
    refine ⟨fun y hy => ?_, fun y hy => ?_, mem_theirs.2 (.inr (.inr (.inl rfl)))⟩
    · simp only [List.mem_cons, List.not_mem_nil, or_false] at hy
      rcases hy with rfl | rfl | rfl
      · exact mem_theirs.2 (.inl rfl)
      · exact mem_theirs.2 (.inr (.inl rfl))
      · exact mem_theirs.2 (.inr (.inr (.inr (.inr ⟨0, Nat.zero_le _, rfl⟩))))
    · simp only [List.mem_cons, List.not_mem_nil, or_false] at hy
      rcases hy with rfl | rfl | rfl
      · exact ⟨fun e => h2.1 e.symm, fun e => h2.2.2.1 e.symm⟩
      · exact ⟨fun e => h2.2.1 e.symm, fun e => h2.2.2.2 e.symm⟩
      · exact h3)
  generalize putE n f d Q 0 (tokT m.epoch) = E at *
  generalize putD n f d Q 0 (tokT m.epoch) = D1 at *
  generalize putC n f d Q 0 (tokT m.epoch) = Q1 at *
  rw [hstT] at HPu
  generalize C.M.enc (tokRec m.epoch) = en at *
  have HRt : Hid (∀ w', RT w' rB LB n d tR bB cap bl f K Q → RC w' rB LB n d bl f K Q ∧ RStAt w' tR bB cap bl K (token Q) (tab Q bl) (blk Q)) := Lib.hid fun w' h => ⟨h.rc, h.at_⟩
  obtain ⟨tk, htk⟩ : ∃ x, token Q = x := ⟨_, rfl⟩
  have Htk := Lib.hid htk
  rw [htk] at ht
  obtain ⟨kind, epoch, seq, nn, block, client, e, t0, t1, t2, t3, data, row⟩ := m
  simp only at hk
  subst hk
  simp only [msgV, Ml.Mg.cells, Ml.nil] at HMy HX HX0 HX1 ht ⊢
  clear h hm hep hg0 hstT htk
  go_enter Tryz.func11, Tryz.ntmps11
  go_upto_region 4 with (first
    | (go_at_call 34; with_reducible refine HMy.out.mono ?_; rintro e1 w1 ⟨rfl, hb1⟩
       have HM1 := Lib.hid (HX0.out.below hb1 HX0.out.lt)
       obtain ⟨c0, c1, c2, c3, c4, c5, c6, c7, c8, c9, c10, c11, c12⟩ := HM1.out.cells
       have HT0 := Lib.hid (HX.out w1 hb1 ⟨11, epoch, seq, nn, block, -1, 0, 0, 0, 0, 0, ⟨#[]⟩, ⟨#[]⟩⟩)
       have HBw := Lib.hid (HX1.out w1 hb1)
       clear hb1))
  have HR1 := Lib.hid (HR0.out.below (HBw.out.alloc HBw.out.size (.cells #[.int .i64 11, .int .i64 epoch, .int .i64 seq, .int .i64 nn, .int .i64 block, .int .i64 (-1), .int .i64 0, .int .i64 0, .int .i64 0, .int .i64 0, .int .i64 0, .string ⟨#[]⟩, .string ⟨#[]⟩] 37)))
  clear c0 c1 c2 c3 c4 c5 c6 c7 c8 c9 c10 c11 c12 HM1 HX HX0 HX1 HMy HR0 HBw
  replace HT0 : Hid (TK w (theirs rB LB tR bB bl K) (w1.alloc (.cells #[.int .i64 11, .int .i64 epoch, .int .i64 seq, .int .i64 nn, .int .i64 block, .int .i64 (-1), .int .i64 0, .int .i64 0, .int .i64 0, .int .i64 0, .int .i64 0, .string ⟨#[]⟩, .string ⟨#[]⟩] 37)) w1.heap.size ⟨10, epoch, seq, nn, block, client, e, t0, t1, t2, t3, data, row⟩ ⟨11, epoch, seq, nn, block, -1, 0, 0, 0, 0, 0, ⟨#[]⟩, ⟨#[]⟩⟩) := HT0
  generalize w1.alloc (.cells #[.int .i64 11, .int .i64 epoch, .int .i64 seq, .int .i64 nn, .int .i64 block, .int .i64 (-1), .int .i64 0, .int .i64 0, .int .i64 0, .int .i64 0, .int .i64 0, .string ⟨#[]⟩, .string ⟨#[]⟩] 37) = W at *
  generalize w1.heap.size = A at *
  have y1 := HT0.out.mb.cells.2.1
  simp only at y1
  have p1 := HR1.out.at_.p1
  rw [Htk.out] at p1
  go_upto_region 4 with fail
  go_quiet (fail)
  have HT2 := Lib.hid (HT0.out.below (rdrewN_below _ W nq))
  have HR2 := Lib.hid (HR1.out.below (rdrewN_below _ W nq))
  clear HT0 HR1 y1 p1
  generalize W.drewN nq = W2 at *
  have a6 := HT2.out.ab.cells.2.2.2.2.2.2.1
  simp only at a6
  have af := HT2.out.ab.fz 6
  go_upto_region 6 with fail
  have HT3 := Lib.hid (HT2.out.setE 24)
  have HR3 := Lib.hid (HR2.out.own (w := w) HNt.out ((But.refl [A] W2).set (p := ⟨A, 6, none⟩) (.int .i64 24) (.inl (by simp))) (by have := HT2.out.lo; simp; omega))
  clear HT2 HR2 a6 af
  generalize W2.setCell ⟨A, 6, none⟩ (.int .i64 24) = W3 at *
  obtain ⟨c0, c1, c2, c3, c4, c5, c6, c7, c8, c9, c10, c11, c12⟩ := HT3.out.ab.cells
  obtain ⟨z0, z1, z2, z3, z4, z5, z6, z7, z8, z9, z10, z11, z12⟩ := HT3.out.zb.cells
  have zf := HT3.out.zb.fz
  simp only [Ml.nil] at c0 c1 c2 c3 c4 c5 c6 c7 c8 c9 c10 c11 c12 z0 z1 z2 z3 z4 z5 z6 z7 z8 z9 z10 z11 z12
  go_wp2
  exact ret_msgT (m := ⟨11, epoch, seq, nn, block, -1, 24, 0, 0, 0, 0, ⟨#[]⟩, ⟨#[]⟩⟩) (v := .bool true) Tryz.results11 rfl rfl rfl (Ml.mb_set' HT3.out.zb) ⟨rfl, HR3.out.own (w := w) HNt.out ((But.refl [w.heap.size + 1] W3).sets (w.heap.size + 1) 0 (Ml.Mg.cells ⟨11, epoch, seq, nn, block, -1, 24, 0, 0, 0, 0, ⟨#[]⟩, ⟨#[]⟩⟩).toList (.inl (by simp))) (by simp), HT3.out.bu.sets (w.heap.size + 1) 0 (Ml.Mg.cells ⟨11, epoch, seq, nn, block, -1, 24, 0, 0, 0, 0, ⟨#[]⟩, ⟨#[]⟩⟩).toList (.inr (Nat.le_succ _))⟩

set_option maxHeartbeats 4000000 in
theorem rtake_old12 (w : World) (h : RT w rB LB n d tR bB cap bl f K Q) (m : Mg) (hm : may m = true) (hk : m.kind = 12) (ht : m.epoch < token Q) :
    Calls Tryz.prog 11 #[.pointer (some ⟨tR, 0, none⟩), msgV m] w fun e w' => e = .returned (.tuple #[msgV ⟨13, m.epoch, m.seq, m.n, m.block, -1, 24, 0, 0, 0, 0, ⟨#[]⟩, ⟨#[]⟩⟩, .bool true]) ∧ RT w' rB LB n d tR bB cap bl f K Q ∧ But (theirs rB LB tR bB bl K) w w' := by
  have HMy := Lib.hid (Ml.refmay_any ((w.alloc (.cells m.cells 37)).alloc (.cells Ml.nil.cells 37)) m)
  rw [hm] at HMy
  have hep : 0 ≤ m.epoch ∧ m.epoch ≤ big := ((Ml.may_iff m).1 hm).2.1
  have hg0 := (h.rc.gn 0 (Nat.zero_le _)).2
  have HNt := Lib.hid h.lts
  have HR0 := Lib.hid h
  have HX := Lib.hid (fun w1 => @TK.start w (theirs rB LB tR bB bl K) m w1 h.lts)
  have HX0 := Lib.hid (tak_boxes w m).1
  have HX1 : Hid (∀ w1, Below ((w.alloc (.cells m.cells 37)).alloc (.cells Ml.nil.cells 37)).heap.size ((w.alloc (.cells m.cells 37)).alloc (.cells Ml.nil.cells 37)) w1 → Below w.heap.size w w1) := Lib.hid fun w1 hb => (tak_boxes w m).2.2.trans (hb.mono (tak_boxes w m).2.2.size)
  have HEn : Hid (∀ W : World, Calls Tryz.prog 35 _ _ _) := Lib.hid fun W => renc_tok W m.epoch hep
  have HPu : Hid (∀ w', RC w' rB LB n d bl f K Q → Calls Tryz.prog 36 _ w' _) := Lib.hid fun w' h => rput_rc w' h 0 (Nat.zero_le _) (tokT m.epoch) (tokT_small m.epoch)
  have HE1 : Hid (putE n f d Q 0 (tokT m.epoch) = 0 → token (putC n f d Q 0 (tokT m.epoch)) = m.epoch ∧ (∀ j, blk (putC n f d Q 0 (tokT m.epoch)) j = blk Q j) ∧ tab (putC n f d Q 0 (tokT m.epoch)) bl = tab Q bl) := Lib.hid fun h0 => by
    obtain ⟨g1, g2⟩ := put_token (n := n) (f := f) (d := d) hg0 hep
    rw [if_pos h0] at g1
    exact ⟨g1, g2, rtab_same g2 bl⟩
  have HE2 : Hid (putE n f d Q 0 (tokT m.epoch) ≠ 0 → putC n f d Q 0 (tokT m.epoch) = Q) := Lib.hid fun h0 => by
    rcases putC_ways n f d Q 0 (tokT m.epoch) hg0 with ⟨g1, _⟩ | ⟨_, g2⟩
    · exact absurd g1 h0
    · exact g2
  have hstT : tokT m.epoch = C.str (C.M.enc (tokRec m.epoch)) := rfl
  have HTd := Lib.hid (And.intro h.td h.tk)
  have HK0 : Hid ((∀ y ∈ [rB, LB, K 0], y ∈ theirs rB LB tR bB bl K) ∧ (∀ y ∈ [rB, LB, K 0], y ≠ tR ∧ y ≠ bB) ∧ tR ∈ theirs rB LB tR bB bl K) := Lib.hid (by
    have h2 := h.td
    have h3 := h.tk 0 (Nat.zero_le _)
    refine ⟨fun y hy => ?_, fun y hy => ?_, mem_theirs.2 (.inr (.inr (.inl rfl)))⟩
    · simp only [List.mem_cons, List.not_mem_nil, or_false] at hy
      rcases hy with rfl | rfl | rfl
      · exact mem_theirs.2 (.inl rfl)
      · exact mem_theirs.2 (.inr (.inl rfl))
      · exact mem_theirs.2 (.inr (.inr (.inr (.inr ⟨0, Nat.zero_le _, rfl⟩))))
    · simp only [List.mem_cons, List.not_mem_nil, or_false] at hy
      rcases hy with rfl | rfl | rfl
      · exact ⟨fun e => h2.1 e.symm, fun e => h2.2.2.1 e.symm⟩
      · exact ⟨fun e => h2.2.1 e.symm, fun e => h2.2.2.2 e.symm⟩
      · exact h3)
  generalize putE n f d Q 0 (tokT m.epoch) = E at *
  generalize putD n f d Q 0 (tokT m.epoch) = D1 at *
  generalize putC n f d Q 0 (tokT m.epoch) = Q1 at *
  rw [hstT] at HPu
  generalize C.M.enc (tokRec m.epoch) = en at *
  have HRt : Hid (∀ w', RT w' rB LB n d tR bB cap bl f K Q → RC w' rB LB n d bl f K Q ∧ RStAt w' tR bB cap bl K (token Q) (tab Q bl) (blk Q)) := Lib.hid fun w' h => ⟨h.rc, h.at_⟩
  obtain ⟨tk, htk⟩ : ∃ x, token Q = x := ⟨_, rfl⟩
  have Htk := Lib.hid htk
  rw [htk] at ht
  obtain ⟨kind, epoch, seq, nn, block, client, e, t0, t1, t2, t3, data, row⟩ := m
  simp only at hk
  subst hk
  simp only [msgV, Ml.Mg.cells, Ml.nil] at HMy HX HX0 HX1 ht ⊢
  clear h hm hep hg0 hstT htk
  go_enter Tryz.func11, Tryz.ntmps11
  go_upto_region 4 with (first
    | (go_at_call 34; with_reducible refine HMy.out.mono ?_; rintro e1 w1 ⟨rfl, hb1⟩
       have HM1 := Lib.hid (HX0.out.below hb1 HX0.out.lt)
       obtain ⟨c0, c1, c2, c3, c4, c5, c6, c7, c8, c9, c10, c11, c12⟩ := HM1.out.cells
       have HT0 := Lib.hid (HX.out w1 hb1 ⟨13, epoch, seq, nn, block, -1, 0, 0, 0, 0, 0, ⟨#[]⟩, ⟨#[]⟩⟩)
       have HBw := Lib.hid (HX1.out w1 hb1)
       clear hb1))
  have HR1 := Lib.hid (HR0.out.below (HBw.out.alloc HBw.out.size (.cells #[.int .i64 13, .int .i64 epoch, .int .i64 seq, .int .i64 nn, .int .i64 block, .int .i64 (-1), .int .i64 0, .int .i64 0, .int .i64 0, .int .i64 0, .int .i64 0, .string ⟨#[]⟩, .string ⟨#[]⟩] 37)))
  clear c0 c1 c2 c3 c4 c5 c6 c7 c8 c9 c10 c11 c12 HM1 HX HX0 HX1 HMy HR0 HBw
  replace HT0 : Hid (TK w (theirs rB LB tR bB bl K) (w1.alloc (.cells #[.int .i64 13, .int .i64 epoch, .int .i64 seq, .int .i64 nn, .int .i64 block, .int .i64 (-1), .int .i64 0, .int .i64 0, .int .i64 0, .int .i64 0, .int .i64 0, .string ⟨#[]⟩, .string ⟨#[]⟩] 37)) w1.heap.size ⟨12, epoch, seq, nn, block, client, e, t0, t1, t2, t3, data, row⟩ ⟨13, epoch, seq, nn, block, -1, 0, 0, 0, 0, 0, ⟨#[]⟩, ⟨#[]⟩⟩) := HT0
  generalize w1.alloc (.cells #[.int .i64 13, .int .i64 epoch, .int .i64 seq, .int .i64 nn, .int .i64 block, .int .i64 (-1), .int .i64 0, .int .i64 0, .int .i64 0, .int .i64 0, .int .i64 0, .string ⟨#[]⟩, .string ⟨#[]⟩] 37) = W at *
  generalize w1.heap.size = A at *
  have y1 := HT0.out.mb.cells.2.1
  simp only at y1
  have p1 := HR1.out.at_.p1
  rw [Htk.out] at p1
  go_upto_region 4 with fail
  go_quiet (fail)
  have HT2 := Lib.hid (HT0.out.below (rdrewN_below _ W nq))
  have HR2 := Lib.hid (HR1.out.below (rdrewN_below _ W nq))
  clear HT0 HR1 y1 p1
  generalize W.drewN nq = W2 at *
  have a6 := HT2.out.ab.cells.2.2.2.2.2.2.1
  simp only at a6
  have af := HT2.out.ab.fz 6
  go_upto_region 6 with fail
  have HT3 := Lib.hid (HT2.out.setE 24)
  have HR3 := Lib.hid (HR2.out.own (w := w) HNt.out ((But.refl [A] W2).set (p := ⟨A, 6, none⟩) (.int .i64 24) (.inl (by simp))) (by have := HT2.out.lo; simp; omega))
  clear HT2 HR2 a6 af
  generalize W2.setCell ⟨A, 6, none⟩ (.int .i64 24) = W3 at *
  obtain ⟨c0, c1, c2, c3, c4, c5, c6, c7, c8, c9, c10, c11, c12⟩ := HT3.out.ab.cells
  obtain ⟨z0, z1, z2, z3, z4, z5, z6, z7, z8, z9, z10, z11, z12⟩ := HT3.out.zb.cells
  have zf := HT3.out.zb.fz
  simp only [Ml.nil] at c0 c1 c2 c3 c4 c5 c6 c7 c8 c9 c10 c11 c12 z0 z1 z2 z3 z4 z5 z6 z7 z8 z9 z10 z11 z12
  go_wp2
  exact ret_msgT (m := ⟨13, epoch, seq, nn, block, -1, 24, 0, 0, 0, 0, ⟨#[]⟩, ⟨#[]⟩⟩) (v := .bool true) Tryz.results11 rfl rfl rfl (Ml.mb_set' HT3.out.zb) ⟨rfl, HR3.out.own (w := w) HNt.out ((But.refl [w.heap.size + 1] W3).sets (w.heap.size + 1) 0 (Ml.Mg.cells ⟨13, epoch, seq, nn, block, -1, 24, 0, 0, 0, 0, ⟨#[]⟩, ⟨#[]⟩⟩).toList (.inl (by simp))) (by simp), HT3.out.bu.sets (w.heap.size + 1) 0 (Ml.Mg.cells ⟨13, epoch, seq, nn, block, -1, 24, 0, 0, 0, 0, ⟨#[]⟩, ⟨#[]⟩⟩).toList (.inr (Nat.le_succ _))⟩

set_option maxHeartbeats 8000000 in
theorem rtake_err10 (w : World) (h : RT w rB LB n d tR bB cap bl f K Q) (m : Mg) (hm : may m = true) (hk : m.kind = 10) (ht : token Q < m.epoch) (hE : putE n f d Q 0 (tokT m.epoch) ≠ 0) :
    Calls Tryz.prog 11 #[.pointer (some ⟨tR, 0, none⟩), msgV m] w fun e w' => e = .returned (.tuple #[msgV (if putE n f d Q 0 (tokT m.epoch) = 30 then Ml.nil else ⟨11, m.epoch, m.seq, m.n, m.block, -1, putE n f d Q 0 (tokT m.epoch), 0, 0, 0, 0, ⟨#[]⟩, ⟨#[]⟩⟩), .bool (!decide (putE n f d Q 0 (tokT m.epoch) = 30))]) ∧ RT w' rB LB n (putD n f d Q 0 (tokT m.epoch)) tR bB cap bl f K (putC n f d Q 0 (tokT m.epoch)) ∧ But (theirs rB LB tR bB bl K) w w' := by
  have HMy := Lib.hid (Ml.refmay_any ((w.alloc (.cells m.cells 37)).alloc (.cells Ml.nil.cells 37)) m)
  rw [hm] at HMy
  have hep : 0 ≤ m.epoch ∧ m.epoch ≤ big := ((Ml.may_iff m).1 hm).2.1
  have hg0 := (h.rc.gn 0 (Nat.zero_le _)).2
  have HNt := Lib.hid h.lts
  have HR0 := Lib.hid h
  have HX := Lib.hid (fun w1 => @TK.start w (theirs rB LB tR bB bl K) m w1 h.lts)
  have HX0 := Lib.hid (tak_boxes w m).1
  have HX1 : Hid (∀ w1, Below ((w.alloc (.cells m.cells 37)).alloc (.cells Ml.nil.cells 37)).heap.size ((w.alloc (.cells m.cells 37)).alloc (.cells Ml.nil.cells 37)) w1 → Below w.heap.size w w1) := Lib.hid fun w1 hb => (tak_boxes w m).2.2.trans (hb.mono (tak_boxes w m).2.2.size)
  have HEn : Hid (∀ W : World, Calls Tryz.prog 35 _ _ _) := Lib.hid fun W => renc_tok W m.epoch hep
  have HPu : Hid (∀ w', RC w' rB LB n d bl f K Q → Calls Tryz.prog 36 _ w' _) := Lib.hid fun w' h => rput_rc w' h 0 (Nat.zero_le _) (tokT m.epoch) (tokT_small m.epoch)
  have HE1 : Hid (putE n f d Q 0 (tokT m.epoch) = 0 → token (putC n f d Q 0 (tokT m.epoch)) = m.epoch ∧ (∀ j, blk (putC n f d Q 0 (tokT m.epoch)) j = blk Q j) ∧ tab (putC n f d Q 0 (tokT m.epoch)) bl = tab Q bl) := Lib.hid fun h0 => by
    obtain ⟨g1, g2⟩ := put_token (n := n) (f := f) (d := d) hg0 hep
    rw [if_pos h0] at g1
    exact ⟨g1, g2, rtab_same g2 bl⟩
  have HE2 : Hid (putE n f d Q 0 (tokT m.epoch) ≠ 0 → putC n f d Q 0 (tokT m.epoch) = Q) := Lib.hid fun h0 => by
    rcases putC_ways n f d Q 0 (tokT m.epoch) hg0 with ⟨g1, _⟩ | ⟨_, g2⟩
    · exact absurd g1 h0
    · exact g2
  have hstT : tokT m.epoch = C.str (C.M.enc (tokRec m.epoch)) := rfl
  have HTd := Lib.hid (And.intro h.td h.tk)
  have HK0 : Hid ((∀ y ∈ [rB, LB, K 0], y ∈ theirs rB LB tR bB bl K) ∧ (∀ y ∈ [rB, LB, K 0], y ≠ tR ∧ y ≠ bB) ∧ tR ∈ theirs rB LB tR bB bl K) := Lib.hid (by
    have h2 := h.td
    have h3 := h.tk 0 (Nat.zero_le _)
    refine ⟨fun y hy => ?_, fun y hy => ?_, mem_theirs.2 (.inr (.inr (.inl rfl)))⟩
    · simp only [List.mem_cons, List.not_mem_nil, or_false] at hy
      rcases hy with rfl | rfl | rfl
      · exact mem_theirs.2 (.inl rfl)
      · exact mem_theirs.2 (.inr (.inl rfl))
      · exact mem_theirs.2 (.inr (.inr (.inr (.inr ⟨0, Nat.zero_le _, rfl⟩))))
    · simp only [List.mem_cons, List.not_mem_nil, or_false] at hy
      rcases hy with rfl | rfl | rfl
      · exact ⟨fun e => h2.1 e.symm, fun e => h2.2.2.1 e.symm⟩
      · exact ⟨fun e => h2.2.1 e.symm, fun e => h2.2.2.2 e.symm⟩
      · exact h3)
  generalize putE n f d Q 0 (tokT m.epoch) = E at *
  generalize putD n f d Q 0 (tokT m.epoch) = D1 at *
  generalize putC n f d Q 0 (tokT m.epoch) = Q1 at *
  rw [hstT] at HPu
  generalize C.M.enc (tokRec m.epoch) = en at *
  have HRt : Hid (∀ w', RT w' rB LB n d tR bB cap bl f K Q → RC w' rB LB n d bl f K Q ∧ RStAt w' tR bB cap bl K (token Q) (tab Q bl) (blk Q)) := Lib.hid fun w' h => ⟨h.rc, h.at_⟩
  obtain ⟨tk, htk⟩ : ∃ x, token Q = x := ⟨_, rfl⟩
  have Htk := Lib.hid htk
  rw [htk] at ht
  have hQ := HE2.out hE
  rw [hQ] at HPu
  rw [hQ]
  clear hQ HE1 HE2 Q1
  have hE0 : (E == 0) = false := by rw [beq_eq_false_iff_ne]; exact hE
  have ht' : ¬ m.epoch < tk := by omega
  clear hE
  by_cases h30 : E = 30
  case' pos =>
    have h30' : (E == 30) = true := by rw [beq_iff_eq]; exact h30
    rw [if_pos h30, decide_eq_true h30]
  case' neg =>
    have h30' : (E == 30) = false := by rw [beq_eq_false_iff_ne]; exact h30
    rw [if_neg h30, decide_eq_false h30]
  all_goals
    clear h30
    simp only [Bool.not_true, Bool.not_false, Ml.nil]
    obtain ⟨kind, epoch, seq, nn, block, client, e, t0, t1, t2, t3, data, row⟩ := m
    simp only at hk
    subst hk
    simp only [msgV, Ml.Mg.cells, Ml.nil] at HMy HX HX0 HX1 ht ht' ⊢
    clear h hm hep hg0 hstT htk
    go_enter Tryz.func11, Tryz.ntmps11
    go_upto_region 4 with (first
      | (go_at_call 34; with_reducible refine HMy.out.mono ?_; rintro e1 w1 ⟨rfl, hb1⟩
         have HM1 := Lib.hid (HX0.out.below hb1 HX0.out.lt)
         obtain ⟨c0, c1, c2, c3, c4, c5, c6, c7, c8, c9, c10, c11, c12⟩ := HM1.out.cells
         have HT0 := Lib.hid (HX.out w1 hb1 ⟨11, epoch, seq, nn, block, -1, 0, 0, 0, 0, 0, ⟨#[]⟩, ⟨#[]⟩⟩)
         have HBw := Lib.hid (HX1.out w1 hb1)
         clear hb1))
    have HR1 := Lib.hid (HR0.out.below (HBw.out.alloc HBw.out.size (.cells #[.int .i64 11, .int .i64 epoch, .int .i64 seq, .int .i64 nn, .int .i64 block, .int .i64 (-1), .int .i64 0, .int .i64 0, .int .i64 0, .int .i64 0, .int .i64 0, .string ⟨#[]⟩, .string ⟨#[]⟩] 37)))
    clear c0 c1 c2 c3 c4 c5 c6 c7 c8 c9 c10 c11 c12 HM1 HX HX0 HX1 HMy HR0 HBw
    replace HT0 : Hid (TK w (theirs rB LB tR bB bl K) (w1.alloc (.cells #[.int .i64 11, .int .i64 epoch, .int .i64 seq, .int .i64 nn, .int .i64 block, .int .i64 (-1), .int .i64 0, .int .i64 0, .int .i64 0, .int .i64 0, .int .i64 0, .string ⟨#[]⟩, .string ⟨#[]⟩] 37)) w1.heap.size ⟨10, epoch, seq, nn, block, client, e, t0, t1, t2, t3, data, row⟩ ⟨11, epoch, seq, nn, block, -1, 0, 0, 0, 0, 0, ⟨#[]⟩, ⟨#[]⟩⟩) := HT0
    generalize w1.alloc (.cells #[.int .i64 11, .int .i64 epoch, .int .i64 seq, .int .i64 nn, .int .i64 block, .int .i64 (-1), .int .i64 0, .int .i64 0, .int .i64 0, .int .i64 0, .int .i64 0, .string ⟨#[]⟩, .string ⟨#[]⟩] 37) = W at *
    generalize w1.heap.size = A at *
    have y1 := HT0.out.mb.cells.2.1
    simp only at y1
    have p1 := HR1.out.at_.p1
    rw [Htk.out] at p1
    go_upto_region 4 with fail
    go_quiet (fail)
    have HT2 := Lib.hid (HT0.out.below (rdrewN_below _ W nq))
    have HR2 := Lib.hid (HR1.out.below (rdrewN_below _ W nq))
    clear HT0 HR1 y1 p1
    generalize W.drewN nq = W2 at *
    have y1 := HT2.out.mb.cells.2.1
    simp only at y1
    have p1 := HR2.out.at_.p1
    rw [Htk.out] at p1
    go_upto_region 7 with fail
    go_quiet (fail)
    have HT7 := Lib.hid (HT2.out.below (rdrewN_below _ W2 nq))
    have HR7 := Lib.hid (HR2.out.below (rdrewN_below _ W2 nq))
    clear HT2 HR2 y1 p1
    generalize W2.drewN nq = W7 at *
    have y1 := HT7.out.mb.cells.2.1
    simp only at y1
    go_upto_region 9 with (first
      | (go_at_call 35; refine (HEn.out W7).mono ?_; rintro e8 w8 ⟨aE, nE, cE, rfl, hrow, hfr, hb8⟩
         have HT8 := Lib.hid (HT7.out.below hb8)
         have HR8 := Lib.hid (HR7.out.below hb8)
         have HRw := Lib.hid hrow
         have HFr := Lib.hid hfr
         have HA8 := Lib.hid HT7.out.ab.lt
         have HW8 := Lib.hid HT7.out.bu.size
         clear hrow hfr hb8))
    clear HT7 HR7 y1
    have HKK : Hid (∀ w', But [rB, LB, K 0, A] w8 w' → w'.cell? ⟨tR, 0, none⟩ = some (.pointer (some ⟨K 0, 0, none⟩)) ∧ (convert 50 9 (.slice aE nE cE)).run Tryz.prog w' = .ok (.string (C.str en)) w') := Lib.hid fun w' hb => by
      have hk2 := HK0.out.2.1
      have hlo := HT8.out.lo
      have htl := HNt.out tR HK0.out.2.2
      have hmem : ∀ y, y ∈ [rB, LB, K 0, A] → y ∈ [rB, LB, K 0] ∨ y = A := fun y hy => by simp at hy ⊢; omega
      refine ⟨?_, rconv (row_but HRw.out hb (.inr fun b off hq hm => ?_))⟩
      · rw [hb.cell (b := tR) (o := 0) HR8.out.at_.lt (fun hm => by rcases hmem _ hm with h1 | h1; exact (hk2 _ h1).1 rfl; omega)]; exact HR8.out.at_.p0
      · have g1 := HFr.out b off hq
        have g2 := HA8.out
        have g3 := HW8.out
        rcases hmem _ hm with h1 | h1
        · have := HNt.out _ (HK0.out.1 _ h1); omega
        · omega
    have HKK0 := HKK.out w8 (But.refl _ _)
    have a6 := HT8.out.ab.cells.2.2.2.2.2.2.1
    have af := HT8.out.ab.fz 6
    simp only at a6
    go_region_held3 (fun w' => w'.cell? ⟨tR, 0, none⟩ = some (.pointer (some ⟨K 0, 0, none⟩)) ∧ (convert 50 9 (.slice aE nE cE)).run Tryz.prog w' = .ok (.string (C.str en)) w')
      (first
        | exact HKK.out w8 (But.refl _ _)
        | exact HKK.out _ (But.refl _ w8).drew
        | exact HKK.out _ B9.out
        | exact HKK.out _ (B9.out.set _ (.inl (by simp))))
      (first
        | (go_at_call 36; refine (HPu.out w8.drew (HRt.out _ (HR8.out.below (Below.refl _ _).drew)).1).mono ?_; rintro e9 w9 ⟨rfl, hrc, hb9⟩
           have B9' : Hid (But [rB, LB, K 0] w8 w9) := Lib.hid ((But.refl _ w8).drew.trans hb9)
           have B9 : Hid (But [rB, LB, K 0, A] w8 w9) := Lib.hid (B9'.out.mono (by intro y hy; simp at hy ⊢; omega))
           have HC9 := Lib.hid hrc
           have HT9 := Lib.hid (HT8.out.but B9'.out HK0.out.1)
           have b6 := HT9.out.ab.cells.2.2.2.2.2.2.1
           have bf := HT9.out.ab.fz 6
           simp only at b6
           clear hb9 hrc))
    have HT10 := Lib.hid (HT9.out.setE E)
    have hlo := HT9.out.lo
    have hba : But [A] w9 (w9.setCell ⟨A, 6, none⟩ (.int .i64 E)) := (But.refl [A] w9).set _ (.inl (by simp))
    have hnA : ∀ y ∈ theirs rB LB tR bB bl K, y ∉ [A] := fun y hy => by have := HNt.out y hy; simp; omega
    have HC10 := Lib.hid (HC9.out.but hba (hnA _ (mem_theirs.2 (.inl rfl))) (hnA _ (mem_theirs.2 (.inr (.inl rfl)))) (fun k hk => hnA _ (mem_theirs.2 (.inr (.inr (.inr (.inr ⟨k, hk, rfl⟩)))))))
    have HA10 : Hid (RStAt (w9.setCell ⟨A, 6, none⟩ (.int .i64 E)) tR bB cap bl K (token Q) (tab Q bl) (blk Q)) := Lib.hid (((HRt.out _ HR8.out).2.but B9'.out (fun hm => (HK0.out.2.1 _ hm).1 rfl) (fun hm => (HK0.out.2.1 _ hm).2 rfl)).but hba (hnA _ (mem_theirs.2 (.inr (.inr (.inl rfl))))) (hnA _ (mem_theirs.2 (.inr (.inr (.inr (.inl rfl)))))))
    clear HKK HKK0 a6 af b6 bf B9 B9' HT8 HR8 HRw HFr HA8 HW8 HC9 HT9 hba hlo hnA
    generalize w9.setCell ⟨A, 6, none⟩ (.int .i64 E) = W10 at *
    have a6 := HT10.out.ab.cells.2.2.2.2.2.2.1
    simp only at a6
    have HR10 : Hid (RT W10 rB LB n D1 tR bB cap bl f K Q) := Lib.hid ⟨HC10.out, HA10.out, HTd.out.1, HTd.out.2⟩
    obtain ⟨c0, c1, c2, c3, c4, c5, c6, c7, c8, c9, c10, c11, c12⟩ := HT10.out.ab.cells
    obtain ⟨z0, z1, z2, z3, z4, z5, z6, z7, z8, z9, z10, z11, z12⟩ := HT10.out.zb.cells
    have zf := HT10.out.zb.fz
    simp only [Ml.nil] at c0 c1 c2 c3 c4 c5 c6 c7 c8 c9 c10 c11 c12 z0 z1 z2 z3 z4 z5 z6 z7 z8 z9 z10 z11 z12
    go_wp2
    first
      | exact ret_msgT (m := ⟨0, 0, 0, 0, 0, 0, 0, 0, 0, 0, 0, ⟨#[]⟩, ⟨#[]⟩⟩) (v := .bool false) Tryz.results11 rfl rfl rfl (Ml.mb_set' HT10.out.zb) ⟨rfl, HR10.out.own (w := w) HNt.out ((But.refl [w.heap.size + 1] W10).sets (w.heap.size + 1) 0 (Ml.Mg.cells ⟨0, 0, 0, 0, 0, 0, 0, 0, 0, 0, 0, ⟨#[]⟩, ⟨#[]⟩⟩).toList (.inl (by simp))) (by simp), HT10.out.bu.sets (w.heap.size + 1) 0 (Ml.Mg.cells ⟨0, 0, 0, 0, 0, 0, 0, 0, 0, 0, 0, ⟨#[]⟩, ⟨#[]⟩⟩).toList (.inr (Nat.le_succ _))⟩
      | exact ret_msgT (m := ⟨11, epoch, seq, nn, block, -1, E, 0, 0, 0, 0, ⟨#[]⟩, ⟨#[]⟩⟩) (v := .bool true) Tryz.results11 rfl rfl rfl (Ml.mb_set' HT10.out.zb) ⟨rfl, HR10.out.own (w := w) HNt.out ((But.refl [w.heap.size + 1] W10).sets (w.heap.size + 1) 0 (Ml.Mg.cells ⟨11, epoch, seq, nn, block, -1, E, 0, 0, 0, 0, ⟨#[]⟩, ⟨#[]⟩⟩).toList (.inl (by simp))) (by simp), HT10.out.bu.sets (w.heap.size + 1) 0 (Ml.Mg.cells ⟨11, epoch, seq, nn, block, -1, E, 0, 0, 0, 0, ⟨#[]⟩, ⟨#[]⟩⟩).toList (.inr (Nat.le_succ _))⟩

set_option maxHeartbeats 8000000 in
theorem rtake_err12 (w : World) (h : RT w rB LB n d tR bB cap bl f K Q) (m : Mg) (hm : may m = true) (hk : m.kind = 12) (ht : token Q < m.epoch) (hE : putE n f d Q 0 (tokT m.epoch) ≠ 0) :
    Calls Tryz.prog 11 #[.pointer (some ⟨tR, 0, none⟩), msgV m] w fun e w' => e = .returned (.tuple #[msgV (if putE n f d Q 0 (tokT m.epoch) = 30 then Ml.nil else ⟨13, m.epoch, m.seq, m.n, m.block, -1, putE n f d Q 0 (tokT m.epoch), 0, 0, 0, 0, ⟨#[]⟩, ⟨#[]⟩⟩), .bool (!decide (putE n f d Q 0 (tokT m.epoch) = 30))]) ∧ RT w' rB LB n (putD n f d Q 0 (tokT m.epoch)) tR bB cap bl f K (putC n f d Q 0 (tokT m.epoch)) ∧ But (theirs rB LB tR bB bl K) w w' := by
  have HMy := Lib.hid (Ml.refmay_any ((w.alloc (.cells m.cells 37)).alloc (.cells Ml.nil.cells 37)) m)
  rw [hm] at HMy
  have hep : 0 ≤ m.epoch ∧ m.epoch ≤ big := ((Ml.may_iff m).1 hm).2.1
  have hg0 := (h.rc.gn 0 (Nat.zero_le _)).2
  have HNt := Lib.hid h.lts
  have HR0 := Lib.hid h
  have HX := Lib.hid (fun w1 => @TK.start w (theirs rB LB tR bB bl K) m w1 h.lts)
  have HX0 := Lib.hid (tak_boxes w m).1
  have HX1 : Hid (∀ w1, Below ((w.alloc (.cells m.cells 37)).alloc (.cells Ml.nil.cells 37)).heap.size ((w.alloc (.cells m.cells 37)).alloc (.cells Ml.nil.cells 37)) w1 → Below w.heap.size w w1) := Lib.hid fun w1 hb => (tak_boxes w m).2.2.trans (hb.mono (tak_boxes w m).2.2.size)
  have HEn : Hid (∀ W : World, Calls Tryz.prog 35 _ _ _) := Lib.hid fun W => renc_tok W m.epoch hep
  have HPu : Hid (∀ w', RC w' rB LB n d bl f K Q → Calls Tryz.prog 36 _ w' _) := Lib.hid fun w' h => rput_rc w' h 0 (Nat.zero_le _) (tokT m.epoch) (tokT_small m.epoch)
  have HE1 : Hid (putE n f d Q 0 (tokT m.epoch) = 0 → token (putC n f d Q 0 (tokT m.epoch)) = m.epoch ∧ (∀ j, blk (putC n f d Q 0 (tokT m.epoch)) j = blk Q j) ∧ tab (putC n f d Q 0 (tokT m.epoch)) bl = tab Q bl) := Lib.hid fun h0 => by
    obtain ⟨g1, g2⟩ := put_token (n := n) (f := f) (d := d) hg0 hep
    rw [if_pos h0] at g1
    exact ⟨g1, g2, rtab_same g2 bl⟩
  have HE2 : Hid (putE n f d Q 0 (tokT m.epoch) ≠ 0 → putC n f d Q 0 (tokT m.epoch) = Q) := Lib.hid fun h0 => by
    rcases putC_ways n f d Q 0 (tokT m.epoch) hg0 with ⟨g1, _⟩ | ⟨_, g2⟩
    · exact absurd g1 h0
    · exact g2
  have hstT : tokT m.epoch = C.str (C.M.enc (tokRec m.epoch)) := rfl
  have HTd := Lib.hid (And.intro h.td h.tk)
  have HK0 : Hid ((∀ y ∈ [rB, LB, K 0], y ∈ theirs rB LB tR bB bl K) ∧ (∀ y ∈ [rB, LB, K 0], y ≠ tR ∧ y ≠ bB) ∧ tR ∈ theirs rB LB tR bB bl K) := Lib.hid (by
    have h2 := h.td
    have h3 := h.tk 0 (Nat.zero_le _)
    refine ⟨fun y hy => ?_, fun y hy => ?_, mem_theirs.2 (.inr (.inr (.inl rfl)))⟩
    · simp only [List.mem_cons, List.not_mem_nil, or_false] at hy
      rcases hy with rfl | rfl | rfl
      · exact mem_theirs.2 (.inl rfl)
      · exact mem_theirs.2 (.inr (.inl rfl))
      · exact mem_theirs.2 (.inr (.inr (.inr (.inr ⟨0, Nat.zero_le _, rfl⟩))))
    · simp only [List.mem_cons, List.not_mem_nil, or_false] at hy
      rcases hy with rfl | rfl | rfl
      · exact ⟨fun e => h2.1 e.symm, fun e => h2.2.2.1 e.symm⟩
      · exact ⟨fun e => h2.2.1 e.symm, fun e => h2.2.2.2 e.symm⟩
      · exact h3)
  generalize putE n f d Q 0 (tokT m.epoch) = E at *
  generalize putD n f d Q 0 (tokT m.epoch) = D1 at *
  generalize putC n f d Q 0 (tokT m.epoch) = Q1 at *
  rw [hstT] at HPu
  generalize C.M.enc (tokRec m.epoch) = en at *
  have HRt : Hid (∀ w', RT w' rB LB n d tR bB cap bl f K Q → RC w' rB LB n d bl f K Q ∧ RStAt w' tR bB cap bl K (token Q) (tab Q bl) (blk Q)) := Lib.hid fun w' h => ⟨h.rc, h.at_⟩
  obtain ⟨tk, htk⟩ : ∃ x, token Q = x := ⟨_, rfl⟩
  have Htk := Lib.hid htk
  rw [htk] at ht
  have hQ := HE2.out hE
  rw [hQ] at HPu
  rw [hQ]
  clear hQ HE1 HE2 Q1
  have hE0 : (E == 0) = false := by rw [beq_eq_false_iff_ne]; exact hE
  have ht' : ¬ m.epoch < tk := by omega
  clear hE
  by_cases h30 : E = 30
  case' pos =>
    have h30' : (E == 30) = true := by rw [beq_iff_eq]; exact h30
    rw [if_pos h30, decide_eq_true h30]
  case' neg =>
    have h30' : (E == 30) = false := by rw [beq_eq_false_iff_ne]; exact h30
    rw [if_neg h30, decide_eq_false h30]
  all_goals
    clear h30
    simp only [Bool.not_true, Bool.not_false, Ml.nil]
    obtain ⟨kind, epoch, seq, nn, block, client, e, t0, t1, t2, t3, data, row⟩ := m
    simp only at hk
    subst hk
    simp only [msgV, Ml.Mg.cells, Ml.nil] at HMy HX HX0 HX1 ht ht' ⊢
    clear h hm hep hg0 hstT htk
    go_enter Tryz.func11, Tryz.ntmps11
    go_upto_region 4 with (first
      | (go_at_call 34; with_reducible refine HMy.out.mono ?_; rintro e1 w1 ⟨rfl, hb1⟩
         have HM1 := Lib.hid (HX0.out.below hb1 HX0.out.lt)
         obtain ⟨c0, c1, c2, c3, c4, c5, c6, c7, c8, c9, c10, c11, c12⟩ := HM1.out.cells
         have HT0 := Lib.hid (HX.out w1 hb1 ⟨13, epoch, seq, nn, block, -1, 0, 0, 0, 0, 0, ⟨#[]⟩, ⟨#[]⟩⟩)
         have HBw := Lib.hid (HX1.out w1 hb1)
         clear hb1))
    have HR1 := Lib.hid (HR0.out.below (HBw.out.alloc HBw.out.size (.cells #[.int .i64 13, .int .i64 epoch, .int .i64 seq, .int .i64 nn, .int .i64 block, .int .i64 (-1), .int .i64 0, .int .i64 0, .int .i64 0, .int .i64 0, .int .i64 0, .string ⟨#[]⟩, .string ⟨#[]⟩] 37)))
    clear c0 c1 c2 c3 c4 c5 c6 c7 c8 c9 c10 c11 c12 HM1 HX HX0 HX1 HMy HR0 HBw
    replace HT0 : Hid (TK w (theirs rB LB tR bB bl K) (w1.alloc (.cells #[.int .i64 13, .int .i64 epoch, .int .i64 seq, .int .i64 nn, .int .i64 block, .int .i64 (-1), .int .i64 0, .int .i64 0, .int .i64 0, .int .i64 0, .int .i64 0, .string ⟨#[]⟩, .string ⟨#[]⟩] 37)) w1.heap.size ⟨12, epoch, seq, nn, block, client, e, t0, t1, t2, t3, data, row⟩ ⟨13, epoch, seq, nn, block, -1, 0, 0, 0, 0, 0, ⟨#[]⟩, ⟨#[]⟩⟩) := HT0
    generalize w1.alloc (.cells #[.int .i64 13, .int .i64 epoch, .int .i64 seq, .int .i64 nn, .int .i64 block, .int .i64 (-1), .int .i64 0, .int .i64 0, .int .i64 0, .int .i64 0, .int .i64 0, .string ⟨#[]⟩, .string ⟨#[]⟩] 37) = W at *
    generalize w1.heap.size = A at *
    have y1 := HT0.out.mb.cells.2.1
    simp only at y1
    have p1 := HR1.out.at_.p1
    rw [Htk.out] at p1
    go_upto_region 4 with fail
    go_quiet (fail)
    have HT2 := Lib.hid (HT0.out.below (rdrewN_below _ W nq))
    have HR2 := Lib.hid (HR1.out.below (rdrewN_below _ W nq))
    clear HT0 HR1 y1 p1
    generalize W.drewN nq = W2 at *
    have y1 := HT2.out.mb.cells.2.1
    simp only at y1
    have p1 := HR2.out.at_.p1
    rw [Htk.out] at p1
    go_upto_region 7 with fail
    go_quiet (fail)
    have HT7 := Lib.hid (HT2.out.below (rdrewN_below _ W2 nq))
    have HR7 := Lib.hid (HR2.out.below (rdrewN_below _ W2 nq))
    clear HT2 HR2 y1 p1
    generalize W2.drewN nq = W7 at *
    have y1 := HT7.out.mb.cells.2.1
    simp only at y1
    go_upto_region 9 with (first
      | (go_at_call 35; refine (HEn.out W7).mono ?_; rintro e8 w8 ⟨aE, nE, cE, rfl, hrow, hfr, hb8⟩
         have HT8 := Lib.hid (HT7.out.below hb8)
         have HR8 := Lib.hid (HR7.out.below hb8)
         have HRw := Lib.hid hrow
         have HFr := Lib.hid hfr
         have HA8 := Lib.hid HT7.out.ab.lt
         have HW8 := Lib.hid HT7.out.bu.size
         clear hrow hfr hb8))
    clear HT7 HR7 y1
    have HKK : Hid (∀ w', But [rB, LB, K 0, A] w8 w' → w'.cell? ⟨tR, 0, none⟩ = some (.pointer (some ⟨K 0, 0, none⟩)) ∧ (convert 50 9 (.slice aE nE cE)).run Tryz.prog w' = .ok (.string (C.str en)) w') := Lib.hid fun w' hb => by
      have hk2 := HK0.out.2.1
      have hlo := HT8.out.lo
      have htl := HNt.out tR HK0.out.2.2
      have hmem : ∀ y, y ∈ [rB, LB, K 0, A] → y ∈ [rB, LB, K 0] ∨ y = A := fun y hy => by simp at hy ⊢; omega
      refine ⟨?_, rconv (row_but HRw.out hb (.inr fun b off hq hm => ?_))⟩
      · rw [hb.cell (b := tR) (o := 0) HR8.out.at_.lt (fun hm => by rcases hmem _ hm with h1 | h1; exact (hk2 _ h1).1 rfl; omega)]; exact HR8.out.at_.p0
      · have g1 := HFr.out b off hq
        have g2 := HA8.out
        have g3 := HW8.out
        rcases hmem _ hm with h1 | h1
        · have := HNt.out _ (HK0.out.1 _ h1); omega
        · omega
    have HKK0 := HKK.out w8 (But.refl _ _)
    have a6 := HT8.out.ab.cells.2.2.2.2.2.2.1
    have af := HT8.out.ab.fz 6
    simp only at a6
    go_region_held3 (fun w' => w'.cell? ⟨tR, 0, none⟩ = some (.pointer (some ⟨K 0, 0, none⟩)) ∧ (convert 50 9 (.slice aE nE cE)).run Tryz.prog w' = .ok (.string (C.str en)) w')
      (first
        | exact HKK.out w8 (But.refl _ _)
        | exact HKK.out _ (But.refl _ w8).drew
        | exact HKK.out _ B9.out
        | exact HKK.out _ (B9.out.set _ (.inl (by simp))))
      (first
        | (go_at_call 36; refine (HPu.out w8.drew (HRt.out _ (HR8.out.below (Below.refl _ _).drew)).1).mono ?_; rintro e9 w9 ⟨rfl, hrc, hb9⟩
           have B9' : Hid (But [rB, LB, K 0] w8 w9) := Lib.hid ((But.refl _ w8).drew.trans hb9)
           have B9 : Hid (But [rB, LB, K 0, A] w8 w9) := Lib.hid (B9'.out.mono (by intro y hy; simp at hy ⊢; omega))
           have HC9 := Lib.hid hrc
           have HT9 := Lib.hid (HT8.out.but B9'.out HK0.out.1)
           have b6 := HT9.out.ab.cells.2.2.2.2.2.2.1
           have bf := HT9.out.ab.fz 6
           simp only at b6
           clear hb9 hrc))
    have HT10 := Lib.hid (HT9.out.setE E)
    have hlo := HT9.out.lo
    have hba : But [A] w9 (w9.setCell ⟨A, 6, none⟩ (.int .i64 E)) := (But.refl [A] w9).set _ (.inl (by simp))
    have hnA : ∀ y ∈ theirs rB LB tR bB bl K, y ∉ [A] := fun y hy => by have := HNt.out y hy; simp; omega
    have HC10 := Lib.hid (HC9.out.but hba (hnA _ (mem_theirs.2 (.inl rfl))) (hnA _ (mem_theirs.2 (.inr (.inl rfl)))) (fun k hk => hnA _ (mem_theirs.2 (.inr (.inr (.inr (.inr ⟨k, hk, rfl⟩)))))))
    have HA10 : Hid (RStAt (w9.setCell ⟨A, 6, none⟩ (.int .i64 E)) tR bB cap bl K (token Q) (tab Q bl) (blk Q)) := Lib.hid (((HRt.out _ HR8.out).2.but B9'.out (fun hm => (HK0.out.2.1 _ hm).1 rfl) (fun hm => (HK0.out.2.1 _ hm).2 rfl)).but hba (hnA _ (mem_theirs.2 (.inr (.inr (.inl rfl))))) (hnA _ (mem_theirs.2 (.inr (.inr (.inr (.inl rfl)))))))
    clear HKK HKK0 a6 af b6 bf B9 B9' HT8 HR8 HRw HFr HA8 HW8 HC9 HT9 hba hlo hnA
    generalize w9.setCell ⟨A, 6, none⟩ (.int .i64 E) = W10 at *
    have a6 := HT10.out.ab.cells.2.2.2.2.2.2.1
    simp only at a6
    have HR10 : Hid (RT W10 rB LB n D1 tR bB cap bl f K Q) := Lib.hid ⟨HC10.out, HA10.out, HTd.out.1, HTd.out.2⟩
    obtain ⟨c0, c1, c2, c3, c4, c5, c6, c7, c8, c9, c10, c11, c12⟩ := HT10.out.ab.cells
    obtain ⟨z0, z1, z2, z3, z4, z5, z6, z7, z8, z9, z10, z11, z12⟩ := HT10.out.zb.cells
    have zf := HT10.out.zb.fz
    simp only [Ml.nil] at c0 c1 c2 c3 c4 c5 c6 c7 c8 c9 c10 c11 c12 z0 z1 z2 z3 z4 z5 z6 z7 z8 z9 z10 z11 z12
    go_wp2
    first
      | exact ret_msgT (m := ⟨0, 0, 0, 0, 0, 0, 0, 0, 0, 0, 0, ⟨#[]⟩, ⟨#[]⟩⟩) (v := .bool false) Tryz.results11 rfl rfl rfl (Ml.mb_set' HT10.out.zb) ⟨rfl, HR10.out.own (w := w) HNt.out ((But.refl [w.heap.size + 1] W10).sets (w.heap.size + 1) 0 (Ml.Mg.cells ⟨0, 0, 0, 0, 0, 0, 0, 0, 0, 0, 0, ⟨#[]⟩, ⟨#[]⟩⟩).toList (.inl (by simp))) (by simp), HT10.out.bu.sets (w.heap.size + 1) 0 (Ml.Mg.cells ⟨0, 0, 0, 0, 0, 0, 0, 0, 0, 0, 0, ⟨#[]⟩, ⟨#[]⟩⟩).toList (.inr (Nat.le_succ _))⟩
      | exact ret_msgT (m := ⟨13, epoch, seq, nn, block, -1, E, 0, 0, 0, 0, ⟨#[]⟩, ⟨#[]⟩⟩) (v := .bool true) Tryz.results11 rfl rfl rfl (Ml.mb_set' HT10.out.zb) ⟨rfl, HR10.out.own (w := w) HNt.out ((But.refl [w.heap.size + 1] W10).sets (w.heap.size + 1) 0 (Ml.Mg.cells ⟨13, epoch, seq, nn, block, -1, E, 0, 0, 0, 0, ⟨#[]⟩, ⟨#[]⟩⟩).toList (.inl (by simp))) (by simp), HT10.out.bu.sets (w.heap.size + 1) 0 (Ml.Mg.cells ⟨13, epoch, seq, nn, block, -1, E, 0, 0, 0, 0, ⟨#[]⟩, ⟨#[]⟩⟩).toList (.inr (Nat.le_succ _))⟩
end
end Go.Proofs.YtofhijnfbilieaaGreat.Bk
