/-
  The document's own store: a message is taken whose epoch is admitted.
-/
import Derived.Test.YtofhijnfbilieaaGreatRsTake
import Derived.Test.YtofhijnfbilieaaGreatJBC
namespace Go.Proofs.YtofhijnfbilieaaGreat.Bk
open Go.RowKit
open Ml (Mg may msgV)
open C (RecAt RecOwn Own i64s strs)
set_option linter.unusedVariables false
set_option linter.unusedSimpArgs false
set_option maxRecDepth 20000
section
variable {rB LB n : Nat} {d D : M.Dv} {tR bB cap bl f : Nat} {K : Nat → Nat} {Q : Cs}

set_option maxHeartbeats 8000000 in
theorem rtake_sto (w : World) (h : RT w rB LB n d tR bB cap bl f K Q) (m : Mg) (hm : may m = true) (hk : m.kind = 10) (hE : admE n f d Q m.epoch = 0) :
    Calls Tryz.prog 11 #[.pointer (some ⟨tR, 0, none⟩), msgV m] w fun e w' => e = .returned (.tuple #[msgV (if stoE n f bl (admD n f d Q m.epoch) (admC n f d Q m.epoch) m = 30 then Ml.nil else ⟨11, m.epoch, m.seq, m.n, m.block, -1, stoE n f bl (admD n f d Q m.epoch) (admC n f d Q m.epoch) m, 0, 0, 0, 0, ⟨#[]⟩, ⟨#[]⟩⟩), .bool (!decide (stoE n f bl (admD n f d Q m.epoch) (admC n f d Q m.epoch) m = 30))]) ∧ RT w' rB LB n (stoD n f bl (admD n f d Q m.epoch) (admC n f d Q m.epoch) m) tR bB cap bl f K (stoC n f bl (admD n f d Q m.epoch) (admC n f d Q m.epoch) m) ∧ But (theirs rB LB tR bB bl K) w w' := by
  have ht : ¬ m.epoch < token Q := fun h0 => by unfold admE at hE; rw [if_pos h0] at hE; omega
  have HAd : Hid ((m.epoch = token Q → admD n f d Q m.epoch = d ∧ admC n f d Q m.epoch = Q) ∧ (¬ m.epoch = token Q → putE n f d Q 0 (tokT m.epoch) = 0 ∧ admD n f d Q m.epoch = putD n f d Q 0 (tokT m.epoch) ∧ admC n f d Q m.epoch = putC n f d Q 0 (tokT m.epoch))) := Lib.hid (by
    refine ⟨fun h0 => ?_, fun h0 => ?_⟩
    · unfold admD admC; rw [if_pos (by omega), if_pos (by omega)]; exact ⟨rfl, rfl⟩
    · unfold admE at hE
      rw [if_neg ht, if_neg h0] at hE
      unfold admD admC; rw [if_neg (by omega), if_neg (by omega)]; exact ⟨hE, rfl, rfl⟩)
  clear hE
  have HMy := Lib.hid (Ml.refmay_any ((w.alloc (.cells m.cells 37)).alloc (.cells Ml.nil.cells 37)) m)
  rw [hm] at HMy
  have hep : 0 ≤ m.epoch ∧ m.epoch ≤ big := ((Ml.may_iff m).1 hm).2.1
  have hg0 := (h.rc.gn 0 (Nat.zero_le _)).2
  have HNt := Lib.hid h.lts
  have HR0 := Lib.hid h
  have HX := Lib.hid (fun w1 => @TK.start w (theirs rB LB tR bB bl K) m w1 h.lts)
  have HX0 := Lib.hid (tak_boxes w m).1
  have HX1 : Hid (∀ w1, Below ((w.alloc (.cells m.cells 37)).alloc (.cells Ml.nil.cells 37)).heap.size ((w.alloc (.cells m.cells 37)).alloc (.cells Ml.nil.cells 37)) w1 → Below w.heap.size w w1) := Lib.hid fun w1 hb => (tak_boxes w m).2.2.trans (hb.mono (tak_boxes w m).2.2.size)
  have HEn : Hid (∀ W : World, Calls Tryz.prog 35 _ _ _) := Lib.hid fun W => renc_tok W m.epoch hep
  have HPu : Hid (∀ w', RC w' rB LB n d bl f K Q → Calls Tryz.prog 36 _ w' _) := Lib.hid fun w' h => rput_rc w' h 0 (Nat.zero_le _) (tokT m.epoch) (tokT_small m.epoch)
  have HE1 : Hid (putE n f d Q 0 (tokT m.epoch) = 0 → token (putC n f d Q 0 (tokT m.epoch)) = m.epoch ∧ (∀ j, blk (putC n f d Q 0 (tokT m.epoch)) j = blk Q j) ∧ tab (putC n f d Q 0 (tokT m.epoch)) bl = tab Q bl) := Lib.hid fun h0 => by
    obtain ⟨g1, g2⟩ := put_token (n := n) (f := f) (d := d) hg0 hep
    rw [if_pos h0] at g1
    exact ⟨g1, g2, rtab_same g2 bl⟩
  have HE2 : Hid (putE n f d Q 0 (tokT m.epoch) ≠ 0 → putC n f d Q 0 (tokT m.epoch) = Q) := Lib.hid fun h0 => by
    rcases putC_ways n f d Q 0 (tokT m.epoch) hg0 with ⟨g1, _⟩ | ⟨_, g2⟩
    · exact absurd g1 h0
    · exact g2
  have HSo : Hid (∀ w', RT w' rB LB n (admD n f d Q m.epoch) tR bB cap bl f K (admC n f d Q m.epoch) → Calls Tryz.prog 37 #[.pointer (some ⟨tR, 0, none⟩), msgV m] w' _) := Lib.hid fun w' h => rstore_any w' h m hm
  generalize stoE n f bl (admD n f d Q m.epoch) (admC n f d Q m.epoch) m = E2 at *
  generalize stoD n f bl (admD n f d Q m.epoch) (admC n f d Q m.epoch) m = D2 at *
  generalize stoC n f bl (admD n f d Q m.epoch) (admC n f d Q m.epoch) m = Q2 at *
  generalize admD n f d Q m.epoch = Da at *
  generalize admC n f d Q m.epoch = Qa at *
  have hstT : tokT m.epoch = C.str (C.M.enc (tokRec m.epoch)) := rfl
  have HTd := Lib.hid (And.intro h.td h.tk)
  have HK0 : Hid ((∀ y ∈ [rB, LB, K 0], y ∈ theirs rB LB tR bB bl K) ∧ (∀ y ∈ [rB, LB, K 0], y ≠ tR ∧ y ≠ bB) ∧ tR ∈ theirs rB LB tR bB bl K) := Lib.hid (by
    have h2 := h.td
    have h3 := h.tk 0 (Nat.zero_le _)
    refine ⟨fun y hy => ?_, fun y hy => ?_, mem_theirs.2 (.inr (.inr (.inl rfl)))⟩
    · simp only [List.mem_cons, List.not_mem_nil, or_false] at hy
      rcases hy with rfl | rfl | rfl
      · exact mem_theirs.2 (.inl rfl)
      · exact mem_theirs.2 (.inr (.inl rfl))
      · exact mem_theirs.2 (.inr (.inr (.inr (.inr ⟨0, Nat.zero_le _, rfl⟩))))
    · simp only [List.mem_cons, List.not_mem_nil, or_false] at hy
      rcases hy with rfl | rfl | rfl
      · exact ⟨fun e => h2.1 e.symm, fun e => h2.2.2.1 e.symm⟩
      · exact ⟨fun e => h2.2.1 e.symm, fun e => h2.2.2.2 e.symm⟩
      · exact h3)
  generalize putE n f d Q 0 (tokT m.epoch) = E at *
  generalize putD n f d Q 0 (tokT m.epoch) = D1 at *
  generalize putC n f d Q 0 (tokT m.epoch) = Q1 at *
  rw [hstT] at HPu
  generalize C.M.enc (tokRec m.epoch) = en at *
  have HRt : Hid (∀ w', RT w' rB LB n d tR bB cap bl f K Q → RC w' rB LB n d bl f K Q ∧ RStAt w' tR bB cap bl K (token Q) (tab Q bl) (blk Q)) := Lib.hid fun w' h => ⟨h.rc, h.at_⟩
  obtain ⟨tk, htk⟩ : ∃ x, token Q = x := ⟨_, rfl⟩
  have Htk := Lib.hid htk
  rw [htk] at ht
  rw [htk] at HAd
  simp only [msgV, Ml.Mg.cells] at HSo
  by_cases h30 : E2 = 30
  case' pos =>
    have h30' : (E2 == 30) = true := by rw [beq_iff_eq]; exact h30
    rw [if_pos h30, decide_eq_true h30]
  case' neg =>
    have h30' : (E2 == 30) = false := by rw [beq_eq_false_iff_ne]; exact h30
    rw [if_neg h30, decide_eq_false h30]
  all_goals
    clear h30
    simp only [Bool.not_true, Bool.not_false, Ml.nil]
    obtain ⟨kind, epoch, seq, nn, block, client, e, t0, t1, t2, t3, data, row⟩ := m
    simp only at hk HAd
    subst hk
    simp only [msgV, Ml.Mg.cells, Ml.nil] at HMy HX HX0 HX1 ht ⊢
    clear h hm hep hg0 hstT htk
    go_enter Tryz.func11, Tryz.ntmps11
    go_upto_region 4 with (first
      | (go_at_call 34; with_reducible refine HMy.out.mono ?_; rintro e1 w1 ⟨rfl, hb1⟩
         have HM1 := Lib.hid (HX0.out.below hb1 HX0.out.lt)
         obtain ⟨c0, c1, c2, c3, c4, c5, c6, c7, c8, c9, c10, c11, c12⟩ := HM1.out.cells
         have HT0 := Lib.hid (HX.out w1 hb1 ⟨11, epoch, seq, nn, block, -1, 0, 0, 0, 0, 0, ⟨#[]⟩, ⟨#[]⟩⟩)
         have HBw := Lib.hid (HX1.out w1 hb1)
         clear hb1))
    have HR1 := Lib.hid (HR0.out.below (HBw.out.alloc HBw.out.size (.cells #[.int .i64 11, .int .i64 epoch, .int .i64 seq, .int .i64 nn, .int .i64 block, .int .i64 (-1), .int .i64 0, .int .i64 0, .int .i64 0, .int .i64 0, .int .i64 0, .string ⟨#[]⟩, .string ⟨#[]⟩] 37)))
    clear c0 c1 c2 c3 c4 c5 c6 c7 c8 c9 c10 c11 c12 HM1 HX HX0 HX1 HMy HR0 HBw
    replace HT0 : Hid (TK w (theirs rB LB tR bB bl K) (w1.alloc (.cells #[.int .i64 11, .int .i64 epoch, .int .i64 seq, .int .i64 nn, .int .i64 block, .int .i64 (-1), .int .i64 0, .int .i64 0, .int .i64 0, .int .i64 0, .int .i64 0, .string ⟨#[]⟩, .string ⟨#[]⟩] 37)) w1.heap.size ⟨10, epoch, seq, nn, block, client, e, t0, t1, t2, t3, data, row⟩ ⟨11, epoch, seq, nn, block, -1, 0, 0, 0, 0, 0, ⟨#[]⟩, ⟨#[]⟩⟩) := HT0
    generalize w1.alloc (.cells #[.int .i64 11, .int .i64 epoch, .int .i64 seq, .int .i64 nn, .int .i64 block, .int .i64 (-1), .int .i64 0, .int .i64 0, .int .i64 0, .int .i64 0, .int .i64 0, .string ⟨#[]⟩, .string ⟨#[]⟩] 37) = W at *
    generalize w1.heap.size = A at *
    have y1 := HT0.out.mb.cells.2.1
    simp only at y1
    have p1 := HR1.out.at_.p1
    rw [Htk.out] at p1
    go_upto_region 4 with fail
    go_quiet (fail)
    have HT2 := Lib.hid (HT0.out.below (rdrewN_below _ W nq))
    have HR2 := Lib.hid (HR1.out.below (rdrewN_below _ W nq))
    clear HT0 HR1 y1 p1
    generalize W.drewN nq = W2 at *
    by_cases heq : epoch = tk
    case' pos =>
      have hle : ¬ tk < epoch := by omega
      obtain ⟨hD, hQ⟩ := HAd.out.1 heq
      clear heq
      have y1 := HT2.out.mb.cells.2.1
      simp only at y1
      have p1 := HR2.out.at_.p1
      rw [Htk.out] at p1
      go_upto_region 7 with fail
      go_quiet (fail)
      have HT12 := Lib.hid (HT2.out.below (rdrewN_below _ W2 nq))
      have HR12 := Lib.hid (HR2.out.below (rdrewN_below _ W2 nq))
      clear HT2 HR2 y1 p1
      generalize W2.drewN nq = W12 at *
      replace HR12 : Hid (RT W12 rB LB n Da tR bB cap bl f K Qa) := Lib.hid (by rw [hD, hQ]; exact HR12.out)
      clear hD hQ hle
    case' neg =>
      have hgt : tk < epoch := by omega
      obtain ⟨hE0, hD, hQ⟩ := HAd.out.2 heq
      have HE0 := Lib.hid hE0
      clear hE0
      have y1 := HT2.out.mb.cells.2.1
      simp only at y1
      have p1 := HR2.out.at_.p1
      rw [Htk.out] at p1
      go_upto_region 7 with fail
      go_quiet (fail)
      have HT7 := Lib.hid (HT2.out.below (rdrewN_below _ W2 nq))
      have HR7 := Lib.hid (HR2.out.below (rdrewN_below _ W2 nq))
      clear HT2 HR2 y1 p1
      generalize W2.drewN nq = W7 at *
      have y1 := HT7.out.mb.cells.2.1
      simp only at y1
      go_upto_region 9 with (first
        | (go_at_call 35; refine (HEn.out W7).mono ?_; rintro e8 w8 ⟨aE, nE, cE, rfl, hrow, hfr, hb8⟩
           have HT8 := Lib.hid (HT7.out.below hb8)
           have HR8 := Lib.hid (HR7.out.below hb8)
           have HRw := Lib.hid hrow
           have HFr := Lib.hid hfr
           have HA8 := Lib.hid HT7.out.ab.lt
           have HW8 := Lib.hid HT7.out.bu.size
           clear hrow hfr hb8))
      clear HT7 HR7 y1
      have HKK : Hid (∀ w', But [rB, LB, K 0, A] w8 w' → w'.cell? ⟨tR, 0, none⟩ = some (.pointer (some ⟨K 0, 0, none⟩)) ∧ (convert 50 9 (.slice aE nE cE)).run Tryz.prog w' = .ok (.string (C.str en)) w') := Lib.hid fun w' hb => by
        have hk2 := HK0.out.2.1
        have hlo := HT8.out.lo
        have htl := HNt.out tR HK0.out.2.2
        have hmem : ∀ y, y ∈ [rB, LB, K 0, A] → y ∈ [rB, LB, K 0] ∨ y = A := fun y hy => by simp at hy ⊢; omega
        refine ⟨?_, rconv (row_but HRw.out hb (.inr fun b off hq hm => ?_))⟩
        · rw [hb.cell (b := tR) (o := 0) HR8.out.at_.lt (fun hm => by rcases hmem _ hm with h1 | h1; exact (hk2 _ h1).1 rfl; omega)]; exact HR8.out.at_.p0
        · have g1 := HFr.out b off hq
          have g2 := HA8.out
          have g3 := HW8.out
          rcases hmem _ hm with h1 | h1
          · have := HNt.out _ (HK0.out.1 _ h1); omega
          · omega
      have HKK0 := HKK.out w8 (But.refl _ _)
      have a6 := HT8.out.ab.cells.2.2.2.2.2.2.1
      have af := HT8.out.ab.fz 6
      simp only at a6
      go_region_held3 (fun w' => w'.cell? ⟨tR, 0, none⟩ = some (.pointer (some ⟨K 0, 0, none⟩)) ∧ (convert 50 9 (.slice aE nE cE)).run Tryz.prog w' = .ok (.string (C.str en)) w')
        (first
          | exact HKK.out w8 (But.refl _ _)
          | exact HKK.out _ (But.refl _ w8).drew
          | exact HKK.out _ B9.out
          | exact HKK.out _ (B9.out.set _ (.inl (by simp))))
        (first
          | (go_at_call 36; refine (HPu.out w8.drew (HRt.out _ (HR8.out.below (Below.refl _ _).drew)).1).mono ?_; rintro e9 w9 ⟨rfl, hrc, hb9⟩
             have B9' : Hid (But [rB, LB, K 0] w8 w9) := Lib.hid ((But.refl _ w8).drew.trans hb9)
             have B9 : Hid (But [rB, LB, K 0, A] w8 w9) := Lib.hid (B9'.out.mono (by intro y hy; simp at hy ⊢; omega))
             have HC9 := Lib.hid hrc
             have HT9 := Lib.hid (HT8.out.but B9'.out HK0.out.1)
             have b6 := HT9.out.ab.cells.2.2.2.2.2.2.1
             have bf := HT9.out.ab.fz 6
             simp only at b6
             clear hb9 hrc))
      have HT10 := Lib.hid (HT9.out.setE E)
      have hlo := HT9.out.lo
      have hba : But [A] w9 (w9.setCell ⟨A, 6, none⟩ (.int .i64 E)) := (But.refl [A] w9).set _ (.inl (by simp))
      have hnA : ∀ y ∈ theirs rB LB tR bB bl K, y ∉ [A] := fun y hy => by have := HNt.out y hy; simp; omega
      have HC10 := Lib.hid (HC9.out.but hba (hnA _ (mem_theirs.2 (.inl rfl))) (hnA _ (mem_theirs.2 (.inr (.inl rfl)))) (fun k hk => hnA _ (mem_theirs.2 (.inr (.inr (.inr (.inr ⟨k, hk, rfl⟩)))))))
      have HA10 : Hid (RStAt (w9.setCell ⟨A, 6, none⟩ (.int .i64 E)) tR bB cap bl K (token Q) (tab Q bl) (blk Q)) := Lib.hid (((HRt.out _ HR8.out).2.but B9'.out (fun hm => (HK0.out.2.1 _ hm).1 rfl) (fun hm => (HK0.out.2.1 _ hm).2 rfl)).but hba (hnA _ (mem_theirs.2 (.inr (.inr (.inl rfl))))) (hnA _ (mem_theirs.2 (.inr (.inr (.inr (.inl rfl)))))))
      clear HKK HKK0 a6 af b6 bf B9 B9' HT8 HR8 HRw HFr HA8 HW8 HC9 HT9 hba hlo hnA
      generalize w9.setCell ⟨A, 6, none⟩ (.int .i64 E) = W10 at *
      have a6 := HT10.out.ab.cells.2.2.2.2.2.2.1
      simp only at a6
      have hE1 : (E == 0) = true := by rw [beq_iff_eq]; exact HE0.out
      obtain ⟨f1, f2, f3⟩ := HE1.out HE0.out
      have y1 := HT10.out.mb.cells.2.1
      simp only at y1
      have q1 := HA10.out.p1
      have qf := HA10.out.fz
      go_upto_region 12 with fail
      have hbt : But [tR] W10 (W10.setCell ⟨tR, 1, none⟩ (.int .i64 epoch)) := (But.refl [tR] W10).set _ (.inl (by simp))
      have HT12 := Lib.hid (HT10.out.but hbt (fun x hx => by simp at hx; rw [hx]; exact HK0.out.2.2))
      have HC12 := Lib.hid (HC10.out.but hbt (by have := HTd.out.1; simp; omega) (by have := HTd.out.1; simp; omega) (fun j hj => by have := HTd.out.2 j hj; simp; omega))
      have HR12 : Hid (RT (W10.setCell ⟨tR, 1, none⟩ (.int .i64 epoch)) rB LB n Da tR bB cap bl f K Qa) := Lib.hid (by rw [hD, hQ]; exact ⟨HC12.out, (HA10.out.setTk epoch).congr f1 f3 fun j => by rw [f2]; exact ⟨rfl, rfl, rfl⟩, HTd.out.1, HTd.out.2⟩)
      clear hbt a6 y1 q1 qf HT10 HC10 HA10 HC12 f1 f2 f3 hD hQ hgt
      generalize W10.setCell ⟨tR, 1, none⟩ (.int .i64 epoch) = W12 at *
      have hE0 := HE0.out
      subst hE0
      clear HE0
    all_goals
      obtain ⟨m0, m1, m2, m3, m4, m5, m6, m7, m8, m9, m10, m11, m12⟩ := HT12.out.mb.cells
      have a6 := HT12.out.ab.cells.2.2.2.2.2.2.1
      simp only at a6 m0 m1 m2 m3 m4 m5 m6 m7 m8 m9 m10 m11 m12
      go_upto_region 19 with (go_at_call 37; refine (HSo.out _ HR12.out).mono ?_; rintro e5 w5 ⟨rfl, hr5, hb5⟩
                              have HT13 := Lib.hid (HT12.out.but hb5 (fun x hx => hx))
                              have HR13 := Lib.hid hr5
                              have b6 := HT13.out.ab.cells.2.2.2.2.2.2.1
                              have bf := HT13.out.ab.fz 6
                              simp only at b6
                              clear hr5 hb5 a6 m0 m1 m2 m3 m4 m5 m6 m7 m8 m9 m10 m11 m12)
      have HT14 := Lib.hid (HT13.out.setE E2)
      have HR14 := Lib.hid (HR13.out.own (w := w) HNt.out ((But.refl [A] w5).set (p := ⟨A, 6, none⟩) (.int .i64 E2) (.inl (by simp))) (by have := HT13.out.lo; simp; omega))
      clear HT12 HR12 HT13 HR13 b6 bf
      generalize w5.setCell ⟨A, 6, none⟩ (.int .i64 E2) = W14 at *
      obtain ⟨c0, c1, c2, c3, c4, c5, c6, c7, c8, c9, c10, c11, c12⟩ := HT14.out.ab.cells
      obtain ⟨z0, z1, z2, z3, z4, z5, z6, z7, z8, z9, z10, z11, z12⟩ := HT14.out.zb.cells
      have zf := HT14.out.zb.fz
      simp only [Ml.nil] at c0 c1 c2 c3 c4 c5 c6 c7 c8 c9 c10 c11 c12 z0 z1 z2 z3 z4 z5 z6 z7 z8 z9 z10 z11 z12
      go_wp2
      first
        | exact ret_msgT (m := ⟨0, 0, 0, 0, 0, 0, 0, 0, 0, 0, 0, ⟨#[]⟩, ⟨#[]⟩⟩) (v := .bool false) Tryz.results11 rfl rfl rfl (Ml.mb_set' HT14.out.zb) ⟨rfl, HR14.out.own (w := w) HNt.out ((But.refl [w.heap.size + 1] W14).sets (w.heap.size + 1) 0 (Ml.Mg.cells ⟨0, 0, 0, 0, 0, 0, 0, 0, 0, 0, 0, ⟨#[]⟩, ⟨#[]⟩⟩).toList (.inl (by simp))) (by simp), HT14.out.bu.sets (w.heap.size + 1) 0 (Ml.Mg.cells ⟨0, 0, 0, 0, 0, 0, 0, 0, 0, 0, 0, ⟨#[]⟩, ⟨#[]⟩⟩).toList (.inr (Nat.le_succ _))⟩
        | exact ret_msgT (m := ⟨11, epoch, seq, nn, block, -1, E2, 0, 0, 0, 0, ⟨#[]⟩, ⟨#[]⟩⟩) (v := .bool true) Tryz.results11 rfl rfl rfl (Ml.mb_set' HT14.out.zb) ⟨rfl, HR14.out.own (w := w) HNt.out ((But.refl [w.heap.size + 1] W14).sets (w.heap.size + 1) 0 (Ml.Mg.cells ⟨11, epoch, seq, nn, block, -1, E2, 0, 0, 0, 0, ⟨#[]⟩, ⟨#[]⟩⟩).toList (.inl (by simp))) (by simp), HT14.out.bu.sets (w.heap.size + 1) 0 (Ml.Mg.cells ⟨11, epoch, seq, nn, block, -1, E2, 0, 0, 0, 0, ⟨#[]⟩, ⟨#[]⟩⟩).toList (.inr (Nat.le_succ _))⟩

set_option maxHeartbeats 8000000 in
theorem rtake_loaN (w : World) (h : RT w rB LB n d tR bB cap bl f K Q) (m : Mg) (hm : may m = true) (hk : m.kind = 12) (hE : admE n f d Q m.epoch = 0) (hb : (bl : Int) ≤ m.block) :
    Calls Tryz.prog 11 #[.pointer (some ⟨tR, 0, none⟩), msgV m] w fun e w' => e = .returned (.tuple #[msgV ⟨13, m.epoch, m.seq, m.n, m.block, -1, 2, 0, 0, 0, 0, ⟨#[]⟩, ⟨#[]⟩⟩, .bool true]) ∧ RT w' rB LB n (admD n f d Q m.epoch) tR bB cap bl f K (admC n f d Q m.epoch) ∧ But (theirs rB LB tR bB bl K) w w' := by
  have ht : ¬ m.epoch < token Q := fun h0 => by unfold admE at hE; rw [if_pos h0] at hE; omega
  have HAd : Hid ((m.epoch = token Q → admD n f d Q m.epoch = d ∧ admC n f d Q m.epoch = Q) ∧ (¬ m.epoch = token Q → putE n f d Q 0 (tokT m.epoch) = 0 ∧ admD n f d Q m.epoch = putD n f d Q 0 (tokT m.epoch) ∧ admC n f d Q m.epoch = putC n f d Q 0 (tokT m.epoch))) := Lib.hid (by
    refine ⟨fun h0 => ?_, fun h0 => ?_⟩
    · unfold admD admC; rw [if_pos (by omega), if_pos (by omega)]; exact ⟨rfl, rfl⟩
    · unfold admE at hE
      rw [if_neg ht, if_neg h0] at hE
      unfold admD admC; rw [if_neg (by omega), if_neg (by omega)]; exact ⟨hE, rfl, rfl⟩)
  clear hE
  have HMy := Lib.hid (Ml.refmay_any ((w.alloc (.cells m.cells 37)).alloc (.cells Ml.nil.cells 37)) m)
  rw [hm] at HMy
  have hep : 0 ≤ m.epoch ∧ m.epoch ≤ big := ((Ml.may_iff m).1 hm).2.1
  have hg0 := (h.rc.gn 0 (Nat.zero_le _)).2
  have HNt := Lib.hid h.lts
  have HR0 := Lib.hid h
  have HX := Lib.hid (fun w1 => @TK.start w (theirs rB LB tR bB bl K) m w1 h.lts)
  have HX0 := Lib.hid (tak_boxes w m).1
  have HX1 : Hid (∀ w1, Below ((w.alloc (.cells m.cells 37)).alloc (.cells Ml.nil.cells 37)).heap.size ((w.alloc (.cells m.cells 37)).alloc (.cells Ml.nil.cells 37)) w1 → Below w.heap.size w w1) := Lib.hid fun w1 hb => (tak_boxes w m).2.2.trans (hb.mono (tak_boxes w m).2.2.size)
  have HEn : Hid (∀ W : World, Calls Tryz.prog 35 _ _ _) := Lib.hid fun W => renc_tok W m.epoch hep
  have HPu : Hid (∀ w', RC w' rB LB n d bl f K Q → Calls Tryz.prog 36 _ w' _) := Lib.hid fun w' h => rput_rc w' h 0 (Nat.zero_le _) (tokT m.epoch) (tokT_small m.epoch)
  have HE1 : Hid (putE n f d Q 0 (tokT m.epoch) = 0 → token (putC n f d Q 0 (tokT m.epoch)) = m.epoch ∧ (∀ j, blk (putC n f d Q 0 (tokT m.epoch)) j = blk Q j) ∧ tab (putC n f d Q 0 (tokT m.epoch)) bl = tab Q bl) := Lib.hid fun h0 => by
    obtain ⟨g1, g2⟩ := put_token (n := n) (f := f) (d := d) hg0 hep
    rw [if_pos h0] at g1
    exact ⟨g1, g2, rtab_same g2 bl⟩
  have HE2 : Hid (putE n f d Q 0 (tokT m.epoch) ≠ 0 → putC n f d Q 0 (tokT m.epoch) = Q) := Lib.hid fun h0 => by
    rcases putC_ways n f d Q 0 (tokT m.epoch) hg0 with ⟨g1, _⟩ | ⟨_, g2⟩
    · exact absurd g1 h0
    · exact g2
  generalize admD n f d Q m.epoch = Da at *
  generalize admC n f d Q m.epoch = Qa at *
  have hstT : tokT m.epoch = C.str (C.M.enc (tokRec m.epoch)) := rfl
  have HTd := Lib.hid (And.intro h.td h.tk)
  have HK0 : Hid ((∀ y ∈ [rB, LB, K 0], y ∈ theirs rB LB tR bB bl K) ∧ (∀ y ∈ [rB, LB, K 0], y ≠ tR ∧ y ≠ bB) ∧ tR ∈ theirs rB LB tR bB bl K) := Lib.hid (by
    have h2 := h.td
    have h3 := h.tk 0 (Nat.zero_le _)
    refine ⟨fun y hy => ?_, fun y hy => ?_, mem_theirs.2 (.inr (.inr (.inl rfl)))⟩
    · simp only [List.mem_cons, List.not_mem_nil, or_false] at hy
      rcases hy with rfl | rfl | rfl
      · exact mem_theirs.2 (.inl rfl)
      · exact mem_theirs.2 (.inr (.inl rfl))
      · exact mem_theirs.2 (.inr (.inr (.inr (.inr ⟨0, Nat.zero_le _, rfl⟩))))
    · simp only [List.mem_cons, List.not_mem_nil, or_false] at hy
      rcases hy with rfl | rfl | rfl
      · exact ⟨fun e => h2.1 e.symm, fun e => h2.2.2.1 e.symm⟩
      · exact ⟨fun e => h2.2.1 e.symm, fun e => h2.2.2.2 e.symm⟩
      · exact h3)
  generalize putE n f d Q 0 (tokT m.epoch) = E at *
  generalize putD n f d Q 0 (tokT m.epoch) = D1 at *
  generalize putC n f d Q 0 (tokT m.epoch) = Q1 at *
  rw [hstT] at HPu
  generalize C.M.enc (tokRec m.epoch) = en at *
  have HRt : Hid (∀ w', RT w' rB LB n d tR bB cap bl f K Q → RC w' rB LB n d bl f K Q ∧ RStAt w' tR bB cap bl K (token Q) (tab Q bl) (blk Q)) := Lib.hid fun w' h => ⟨h.rc, h.at_⟩
  obtain ⟨tk, htk⟩ : ∃ x, token Q = x := ⟨_, rfl⟩
  have Htk := Lib.hid htk
  rw [htk] at ht
  rw [htk] at HAd
  obtain ⟨kind, epoch, seq, nn, block, client, e, t0, t1, t2, t3, data, row⟩ := m
  simp only at hk HAd hb
  subst hk
  simp only [msgV, Ml.Mg.cells, Ml.nil] at HMy HX HX0 HX1 ht ⊢
  clear h hm hep hg0 hstT htk
  go_enter Tryz.func11, Tryz.ntmps11
  go_upto_region 4 with (first
    | (go_at_call 34; with_reducible refine HMy.out.mono ?_; rintro e1 w1 ⟨rfl, hb1⟩
       have HM1 := Lib.hid (HX0.out.below hb1 HX0.out.lt)
       obtain ⟨c0, c1, c2, c3, c4, c5, c6, c7, c8, c9, c10, c11, c12⟩ := HM1.out.cells
       have HT0 := Lib.hid (HX.out w1 hb1 ⟨13, epoch, seq, nn, block, -1, 0, 0, 0, 0, 0, ⟨#[]⟩, ⟨#[]⟩⟩)
       have HBw := Lib.hid (HX1.out w1 hb1)
       clear hb1))
  have HR1 := Lib.hid (HR0.out.below (HBw.out.alloc HBw.out.size (.cells #[.int .i64 13, .int .i64 epoch, .int .i64 seq, .int .i64 nn, .int .i64 block, .int .i64 (-1), .int .i64 0, .int .i64 0, .int .i64 0, .int .i64 0, .int .i64 0, .string ⟨#[]⟩, .string ⟨#[]⟩] 37)))
  clear c0 c1 c2 c3 c4 c5 c6 c7 c8 c9 c10 c11 c12 HM1 HX HX0 HX1 HMy HR0 HBw
  replace HT0 : Hid (TK w (theirs rB LB tR bB bl K) (w1.alloc (.cells #[.int .i64 13, .int .i64 epoch, .int .i64 seq, .int .i64 nn, .int .i64 block, .int .i64 (-1), .int .i64 0, .int .i64 0, .int .i64 0, .int .i64 0, .int .i64 0, .string ⟨#[]⟩, .string ⟨#[]⟩] 37)) w1.heap.size ⟨12, epoch, seq, nn, block, client, e, t0, t1, t2, t3, data, row⟩ ⟨13, epoch, seq, nn, block, -1, 0, 0, 0, 0, 0, ⟨#[]⟩, ⟨#[]⟩⟩) := HT0
  generalize w1.alloc (.cells #[.int .i64 13, .int .i64 epoch, .int .i64 seq, .int .i64 nn, .int .i64 block, .int .i64 (-1), .int .i64 0, .int .i64 0, .int .i64 0, .int .i64 0, .int .i64 0, .string ⟨#[]⟩, .string ⟨#[]⟩] 37) = W at *
  generalize w1.heap.size = A at *
  have y1 := HT0.out.mb.cells.2.1
  simp only at y1
  have p1 := HR1.out.at_.p1
  rw [Htk.out] at p1
  go_upto_region 4 with fail
  go_quiet (fail)
  have HT2 := Lib.hid (HT0.out.below (rdrewN_below _ W nq))
  have HR2 := Lib.hid (HR1.out.below (rdrewN_below _ W nq))
  clear HT0 HR1 y1 p1
  generalize W.drewN nq = W2 at *
  by_cases heq : epoch = tk
  case' pos =>
    have hle : ¬ tk < epoch := by omega
    obtain ⟨hD, hQ⟩ := HAd.out.1 heq
    clear heq
    have y1 := HT2.out.mb.cells.2.1
    simp only at y1
    have p1 := HR2.out.at_.p1
    rw [Htk.out] at p1
    go_upto_region 7 with fail
    go_quiet (fail)
    have HT12 := Lib.hid (HT2.out.below (rdrewN_below _ W2 nq))
    have HR12 := Lib.hid (HR2.out.below (rdrewN_below _ W2 nq))
    clear HT2 HR2 y1 p1
    generalize W2.drewN nq = W12 at *
    replace HR12 : Hid (RT W12 rB LB n Da tR bB cap bl f K Qa) := Lib.hid (by rw [hD, hQ]; exact HR12.out)
    clear hD hQ hle
  case' neg =>
    have hgt : tk < epoch := by omega
    obtain ⟨hE0, hD, hQ⟩ := HAd.out.2 heq
    have HE0 := Lib.hid hE0
    clear hE0
    have y1 := HT2.out.mb.cells.2.1
    simp only at y1
    have p1 := HR2.out.at_.p1
    rw [Htk.out] at p1
    go_upto_region 7 with fail
    go_quiet (fail)
    have HT7 := Lib.hid (HT2.out.below (rdrewN_below _ W2 nq))
    have HR7 := Lib.hid (HR2.out.below (rdrewN_below _ W2 nq))
    clear HT2 HR2 y1 p1
    generalize W2.drewN nq = W7 at *
    have y1 := HT7.out.mb.cells.2.1
    simp only at y1
    go_upto_region 9 with (first
      | (go_at_call 35; refine (HEn.out W7).mono ?_; rintro e8 w8 ⟨aE, nE, cE, rfl, hrow, hfr, hb8⟩
         have HT8 := Lib.hid (HT7.out.below hb8)
         have HR8 := Lib.hid (HR7.out.below hb8)
         have HRw := Lib.hid hrow
         have HFr := Lib.hid hfr
         have HA8 := Lib.hid HT7.out.ab.lt
         have HW8 := Lib.hid HT7.out.bu.size
         clear hrow hfr hb8))
    clear HT7 HR7 y1
    have HKK : Hid (∀ w', But [rB, LB, K 0, A] w8 w' → w'.cell? ⟨tR, 0, none⟩ = some (.pointer (some ⟨K 0, 0, none⟩)) ∧ (convert 50 9 (.slice aE nE cE)).run Tryz.prog w' = .ok (.string (C.str en)) w') := Lib.hid fun w' hb => by
      have hk2 := HK0.out.2.1
      have hlo := HT8.out.lo
      have htl := HNt.out tR HK0.out.2.2
      have hmem : ∀ y, y ∈ [rB, LB, K 0, A] → y ∈ [rB, LB, K 0] ∨ y = A := fun y hy => by simp at hy ⊢; omega
      refine ⟨?_, rconv (row_but HRw.out hb (.inr fun b off hq hm => ?_))⟩
      · rw [hb.cell (b := tR) (o := 0) HR8.out.at_.lt (fun hm => by rcases hmem _ hm with h1 | h1; exact (hk2 _ h1).1 rfl; omega)]; exact HR8.out.at_.p0
      · have g1 := HFr.out b off hq
        have g2 := HA8.out
        have g3 := HW8.out
        rcases hmem _ hm with h1 | h1
        · have := HNt.out _ (HK0.out.1 _ h1); omega
        · omega
    have HKK0 := HKK.out w8 (But.refl _ _)
    have a6 := HT8.out.ab.cells.2.2.2.2.2.2.1
    have af := HT8.out.ab.fz 6
    simp only at a6
    go_region_held3 (fun w' => w'.cell? ⟨tR, 0, none⟩ = some (.pointer (some ⟨K 0, 0, none⟩)) ∧ (convert 50 9 (.slice aE nE cE)).run Tryz.prog w' = .ok (.string (C.str en)) w')
      (first
        | exact HKK.out w8 (But.refl _ _)
        | exact HKK.out _ (But.refl _ w8).drew
        | exact HKK.out _ B9.out
        | exact HKK.out _ (B9.out.set _ (.inl (by simp))))
      (first
        | (go_at_call 36; refine (HPu.out w8.drew (HRt.out _ (HR8.out.below (Below.refl _ _).drew)).1).mono ?_; rintro e9 w9 ⟨rfl, hrc, hb9⟩
           have B9' : Hid (But [rB, LB, K 0] w8 w9) := Lib.hid ((But.refl _ w8).drew.trans hb9)
           have B9 : Hid (But [rB, LB, K 0, A] w8 w9) := Lib.hid (B9'.out.mono (by intro y hy; simp at hy ⊢; omega))
           have HC9 := Lib.hid hrc
           have HT9 := Lib.hid (HT8.out.but B9'.out HK0.out.1)
           have b6 := HT9.out.ab.cells.2.2.2.2.2.2.1
           have bf := HT9.out.ab.fz 6
           simp only at b6
           clear hb9 hrc))
    have HT10 := Lib.hid (HT9.out.setE E)
    have hlo := HT9.out.lo
    have hba : But [A] w9 (w9.setCell ⟨A, 6, none⟩ (.int .i64 E)) := (But.refl [A] w9).set _ (.inl (by simp))
    have hnA : ∀ y ∈ theirs rB LB tR bB bl K, y ∉ [A] := fun y hy => by have := HNt.out y hy; simp; omega
    have HC10 := Lib.hid (HC9.out.but hba (hnA _ (mem_theirs.2 (.inl rfl))) (hnA _ (mem_theirs.2 (.inr (.inl rfl)))) (fun k hk => hnA _ (mem_theirs.2 (.inr (.inr (.inr (.inr ⟨k, hk, rfl⟩)))))))
    have HA10 : Hid (RStAt (w9.setCell ⟨A, 6, none⟩ (.int .i64 E)) tR bB cap bl K (token Q) (tab Q bl) (blk Q)) := Lib.hid (((HRt.out _ HR8.out).2.but B9'.out (fun hm => (HK0.out.2.1 _ hm).1 rfl) (fun hm => (HK0.out.2.1 _ hm).2 rfl)).but hba (hnA _ (mem_theirs.2 (.inr (.inr (.inl rfl))))) (hnA _ (mem_theirs.2 (.inr (.inr (.inr (.inl rfl)))))))
    clear HKK HKK0 a6 af b6 bf B9 B9' HT8 HR8 HRw HFr HA8 HW8 HC9 HT9 hba hlo hnA
    generalize w9.setCell ⟨A, 6, none⟩ (.int .i64 E) = W10 at *
    have a6 := HT10.out.ab.cells.2.2.2.2.2.2.1
    simp only at a6
    have hE1 : (E == 0) = true := by rw [beq_iff_eq]; exact HE0.out
    obtain ⟨f1, f2, f3⟩ := HE1.out HE0.out
    have y1 := HT10.out.mb.cells.2.1
    simp only at y1
    have q1 := HA10.out.p1
    have qf := HA10.out.fz
    go_upto_region 12 with fail
    have hbt : But [tR] W10 (W10.setCell ⟨tR, 1, none⟩ (.int .i64 epoch)) := (But.refl [tR] W10).set _ (.inl (by simp))
    have HT12 := Lib.hid (HT10.out.but hbt (fun x hx => by simp at hx; rw [hx]; exact HK0.out.2.2))
    have HC12 := Lib.hid (HC10.out.but hbt (by have := HTd.out.1; simp; omega) (by have := HTd.out.1; simp; omega) (fun j hj => by have := HTd.out.2 j hj; simp; omega))
    have HR12 : Hid (RT (W10.setCell ⟨tR, 1, none⟩ (.int .i64 epoch)) rB LB n Da tR bB cap bl f K Qa) := Lib.hid (by rw [hD, hQ]; exact ⟨HC12.out, (HA10.out.setTk epoch).congr f1 f3 fun j => by rw [f2]; exact ⟨rfl, rfl, rfl⟩, HTd.out.1, HTd.out.2⟩)
    clear hbt a6 y1 q1 qf HT10 HC10 HA10 HC12 f1 f2 f3 hD hQ hgt
    generalize W10.setCell ⟨tR, 1, none⟩ (.int .i64 epoch) = W12 at *
    have hE0 := HE0.out
    subst hE0
    clear HE0
  all_goals
    have d2 : decide ((bl : Int) ≤ block) = true := decide_eq_true hb
    have y0 := HT12.out.mb.cells.1
    simp only at y0
    have a6 := HT12.out.ab.cells.2.2.2.2.2.2.1
    simp only at a6
    go_upto_region 15 with fail
    clear y0 a6
    have y4 := HT12.out.mb.cells.2.2.2.2.1
    simp only at y4
    have p2 := HR12.out.at_.p2
    go_quiet (fail)
    have HT15 := Lib.hid (HT12.out.below (rdrewN_below _ W12 nq))
    have HR15 := Lib.hid (HR12.out.below (rdrewN_below _ W12 nq))
    clear HT12 HR12 y4 p2
    generalize W12.drewN nq = W15 at *
    have a6 := HT15.out.ab.cells.2.2.2.2.2.2.1
    simp only at a6
    have af := HT15.out.ab.fz 6
    go_upto_region 19 with fail
    have HT16 := Lib.hid (HT15.out.setE 2)
    have HR16 := Lib.hid (HR15.out.own (w := w) HNt.out ((But.refl [A] W15).set (p := ⟨A, 6, none⟩) (.int .i64 2) (.inl (by simp))) (by have := HT15.out.lo; simp; omega))
    clear HT15 HR15 a6 af
    generalize W15.setCell ⟨A, 6, none⟩ (.int .i64 2) = W16 at *
    obtain ⟨c0, c1, c2, c3, c4, c5, c6, c7, c8, c9, c10, c11, c12⟩ := HT16.out.ab.cells
    obtain ⟨z0, z1, z2, z3, z4, z5, z6, z7, z8, z9, z10, z11, z12⟩ := HT16.out.zb.cells
    have zf := HT16.out.zb.fz
    simp only [Ml.nil] at c0 c1 c2 c3 c4 c5 c6 c7 c8 c9 c10 c11 c12 z0 z1 z2 z3 z4 z5 z6 z7 z8 z9 z10 z11 z12
    go_wp2
    exact ret_msgT (m := ⟨13, epoch, seq, nn, block, -1, 2, 0, 0, 0, 0, ⟨#[]⟩, ⟨#[]⟩⟩) (v := .bool true) Tryz.results11 rfl rfl rfl (Ml.mb_set' HT16.out.zb) ⟨rfl, HR16.out.own (w := w) HNt.out ((But.refl [w.heap.size + 1] W16).sets (w.heap.size + 1) 0 (Ml.Mg.cells ⟨13, epoch, seq, nn, block, -1, 2, 0, 0, 0, 0, ⟨#[]⟩, ⟨#[]⟩⟩).toList (.inl (by simp))) (by simp), HT16.out.bu.sets (w.heap.size + 1) 0 (Ml.Mg.cells ⟨13, epoch, seq, nn, block, -1, 2, 0, 0, 0, 0, ⟨#[]⟩, ⟨#[]⟩⟩).toList (.inr (Nat.le_succ _))⟩

set_option maxHeartbeats 8000000 in
theorem rtake_loaY (w : World) (h : RT w rB LB n d tR bB cap bl f K Q) (m : Mg) (hm : may m = true) (hk : m.kind = 12) (hE : admE n f d Q m.epoch = 0) (hb : ¬ (bl : Int) ≤ m.block) :
    Calls Tryz.prog 11 #[.pointer (some ⟨tR, 0, none⟩), msgV m] w fun e w' => e = .returned (.tuple #[msgV ⟨13, m.epoch, m.seq, m.n, m.block, -1, 0, (tab (admC n f d Q m.epoch) bl).a, (tab (admC n f d Q m.epoch) bl).b, (tab (admC n f d Q m.epoch) bl).c, (tab (admC n f d Q m.epoch) bl).d, (getV bl (admC n f d Q m.epoch) m.block).2.2, ⟨#[]⟩⟩, .bool true]) ∧ RT w' rB LB n (admD n f d Q m.epoch) tR bB cap bl f K (admC n f d Q m.epoch) ∧ But (theirs rB LB tR bB bl K) w w' := by
  have ht : ¬ m.epoch < token Q := fun h0 => by unfold admE at hE; rw [if_pos h0] at hE; omega
  have HAd : Hid ((m.epoch = token Q → admD n f d Q m.epoch = d ∧ admC n f d Q m.epoch = Q) ∧ (¬ m.epoch = token Q → putE n f d Q 0 (tokT m.epoch) = 0 ∧ admD n f d Q m.epoch = putD n f d Q 0 (tokT m.epoch) ∧ admC n f d Q m.epoch = putC n f d Q 0 (tokT m.epoch))) := Lib.hid (by
    refine ⟨fun h0 => ?_, fun h0 => ?_⟩
    · unfold admD admC; rw [if_pos (by omega), if_pos (by omega)]; exact ⟨rfl, rfl⟩
    · unfold admE at hE
      rw [if_neg ht, if_neg h0] at hE
      unfold admD admC; rw [if_neg (by omega), if_neg (by omega)]; exact ⟨hE, rfl, rfl⟩)
  clear hE
  have HMy := Lib.hid (Ml.refmay_any ((w.alloc (.cells m.cells 37)).alloc (.cells Ml.nil.cells 37)) m)
  rw [hm] at HMy
  have hep : 0 ≤ m.epoch ∧ m.epoch ≤ big := ((Ml.may_iff m).1 hm).2.1
  have hg0 := (h.rc.gn 0 (Nat.zero_le _)).2
  have HNt := Lib.hid h.lts
  have HR0 := Lib.hid h
  have HX := Lib.hid (fun w1 => @TK.start w (theirs rB LB tR bB bl K) m w1 h.lts)
  have HX0 := Lib.hid (tak_boxes w m).1
  have HX1 : Hid (∀ w1, Below ((w.alloc (.cells m.cells 37)).alloc (.cells Ml.nil.cells 37)).heap.size ((w.alloc (.cells m.cells 37)).alloc (.cells Ml.nil.cells 37)) w1 → Below w.heap.size w w1) := Lib.hid fun w1 hb => (tak_boxes w m).2.2.trans (hb.mono (tak_boxes w m).2.2.size)
  have HEn : Hid (∀ W : World, Calls Tryz.prog 35 _ _ _) := Lib.hid fun W => renc_tok W m.epoch hep
  have HPu : Hid (∀ w', RC w' rB LB n d bl f K Q → Calls Tryz.prog 36 _ w' _) := Lib.hid fun w' h => rput_rc w' h 0 (Nat.zero_le _) (tokT m.epoch) (tokT_small m.epoch)
  have HE1 : Hid (putE n f d Q 0 (tokT m.epoch) = 0 → token (putC n f d Q 0 (tokT m.epoch)) = m.epoch ∧ (∀ j, blk (putC n f d Q 0 (tokT m.epoch)) j = blk Q j) ∧ tab (putC n f d Q 0 (tokT m.epoch)) bl = tab Q bl) := Lib.hid fun h0 => by
    obtain ⟨g1, g2⟩ := put_token (n := n) (f := f) (d := d) hg0 hep
    rw [if_pos h0] at g1
    exact ⟨g1, g2, rtab_same g2 bl⟩
  have HE2 : Hid (putE n f d Q 0 (tokT m.epoch) ≠ 0 → putC n f d Q 0 (tokT m.epoch) = Q) := Lib.hid fun h0 => by
    rcases putC_ways n f d Q 0 (tokT m.epoch) hg0 with ⟨g1, _⟩ | ⟨_, g2⟩
    · exact absurd g1 h0
    · exact g2
  generalize admD n f d Q m.epoch = Da at *
  generalize admC n f d Q m.epoch = Qa at *
  have HGe : Hid (∀ w', RT w' rB LB n Da tR bB cap bl f K Qa → Calls Tryz.prog 20 _ w' _) := Lib.hid fun w' h => rget_any w' h m.block
  have HP3 : Hid (∀ w', RT w' rB LB n Da tR bB cap bl f K Qa → w'.cell? ⟨tR, 3, none⟩ = some (.int .i64 (tab Qa bl).a) ∧ w'.cell? ⟨tR, 4, none⟩ = some (.int .i64 (tab Qa bl).b) ∧ w'.cell? ⟨tR, 5, none⟩ = some (.int .i64 (tab Qa bl).c) ∧ w'.cell? ⟨tR, 6, none⟩ = some (.int .i64 (tab Qa bl).d)) := Lib.hid fun w' h => ⟨h.at_.p3, h.at_.p4, h.at_.p5, h.at_.p6⟩
  generalize (getV bl Qa m.block).2.2 = s at *
  generalize (getV bl Qa m.block).1 = gv1 at *
  generalize (getV bl Qa m.block).2.1 = gv2 at *
  obtain ⟨X, hXx⟩ : ∃ X, tab Qa bl = X := ⟨_, rfl⟩
  rw [hXx]
  rw [hXx] at HP3
  have HXx := Lib.hid hXx
  clear hXx
  have hstT : tokT m.epoch = C.str (C.M.enc (tokRec m.epoch)) := rfl
  have HTd := Lib.hid (And.intro h.td h.tk)
  have HK0 : Hid ((∀ y ∈ [rB, LB, K 0], y ∈ theirs rB LB tR bB bl K) ∧ (∀ y ∈ [rB, LB, K 0], y ≠ tR ∧ y ≠ bB) ∧ tR ∈ theirs rB LB tR bB bl K) := Lib.hid (by
    have h2 := h.td
    have h3 := h.tk 0 (Nat.zero_le _)
    refine ⟨fun y hy => ?_, fun y hy => ?_, mem_theirs.2 (.inr (.inr (.inl rfl)))⟩
    · simp only [List.mem_cons, List.not_mem_nil, or_false] at hy
      rcases hy with rfl | rfl | rfl
      · exact mem_theirs.2 (.inl rfl)
      · exact mem_theirs.2 (.inr (.inl rfl))
      · exact mem_theirs.2 (.inr (.inr (.inr (.inr ⟨0, Nat.zero_le _, rfl⟩))))
    · simp only [List.mem_cons, List.not_mem_nil, or_false] at hy
      rcases hy with rfl | rfl | rfl
      · exact ⟨fun e => h2.1 e.symm, fun e => h2.2.2.1 e.symm⟩
      · exact ⟨fun e => h2.2.1 e.symm, fun e => h2.2.2.2 e.symm⟩
      · exact h3)
  generalize putE n f d Q 0 (tokT m.epoch) = E at *
  generalize putD n f d Q 0 (tokT m.epoch) = D1 at *
  generalize putC n f d Q 0 (tokT m.epoch) = Q1 at *
  rw [hstT] at HPu
  generalize C.M.enc (tokRec m.epoch) = en at *
  have HRt : Hid (∀ w', RT w' rB LB n d tR bB cap bl f K Q → RC w' rB LB n d bl f K Q ∧ RStAt w' tR bB cap bl K (token Q) (tab Q bl) (blk Q)) := Lib.hid fun w' h => ⟨h.rc, h.at_⟩
  obtain ⟨tk, htk⟩ : ∃ x, token Q = x := ⟨_, rfl⟩
  have Htk := Lib.hid htk
  rw [htk] at ht
  rw [htk] at HAd
  unfold verV at HGe
  obtain ⟨kind, epoch, seq, nn, block, client, e, t0, t1, t2, t3, data, row⟩ := m
  simp only at hk HAd hb HGe
  subst hk
  simp only [msgV, Ml.Mg.cells, Ml.nil] at HMy HX HX0 HX1 ht ⊢
  clear h hm hep hg0 hstT htk
  go_enter Tryz.func11, Tryz.ntmps11
  go_upto_region 4 with (first
    | (go_at_call 34; with_reducible refine HMy.out.mono ?_; rintro e1 w1 ⟨rfl, hb1⟩
       have HM1 := Lib.hid (HX0.out.below hb1 HX0.out.lt)
       obtain ⟨c0, c1, c2, c3, c4, c5, c6, c7, c8, c9, c10, c11, c12⟩ := HM1.out.cells
       have HT0 := Lib.hid (HX.out w1 hb1 ⟨13, epoch, seq, nn, block, -1, 0, 0, 0, 0, 0, ⟨#[]⟩, ⟨#[]⟩⟩)
       have HBw := Lib.hid (HX1.out w1 hb1)
       clear hb1))
  have HR1 := Lib.hid (HR0.out.below (HBw.out.alloc HBw.out.size (.cells #[.int .i64 13, .int .i64 epoch, .int .i64 seq, .int .i64 nn, .int .i64 block, .int .i64 (-1), .int .i64 0, .int .i64 0, .int .i64 0, .int .i64 0, .int .i64 0, .string ⟨#[]⟩, .string ⟨#[]⟩] 37)))
  clear c0 c1 c2 c3 c4 c5 c6 c7 c8 c9 c10 c11 c12 HM1 HX HX0 HX1 HMy HR0 HBw
  replace HT0 : Hid (TK w (theirs rB LB tR bB bl K) (w1.alloc (.cells #[.int .i64 13, .int .i64 epoch, .int .i64 seq, .int .i64 nn, .int .i64 block, .int .i64 (-1), .int .i64 0, .int .i64 0, .int .i64 0, .int .i64 0, .int .i64 0, .string ⟨#[]⟩, .string ⟨#[]⟩] 37)) w1.heap.size ⟨12, epoch, seq, nn, block, client, e, t0, t1, t2, t3, data, row⟩ ⟨13, epoch, seq, nn, block, -1, 0, 0, 0, 0, 0, ⟨#[]⟩, ⟨#[]⟩⟩) := HT0
  generalize w1.alloc (.cells #[.int .i64 13, .int .i64 epoch, .int .i64 seq, .int .i64 nn, .int .i64 block, .int .i64 (-1), .int .i64 0, .int .i64 0, .int .i64 0, .int .i64 0, .int .i64 0, .string ⟨#[]⟩, .string ⟨#[]⟩] 37) = W at *
  generalize w1.heap.size = A at *
  have y1 := HT0.out.mb.cells.2.1
  simp only at y1
  have p1 := HR1.out.at_.p1
  rw [Htk.out] at p1
  go_upto_region 4 with fail
  go_quiet (fail)
  have HT2 := Lib.hid (HT0.out.below (rdrewN_below _ W nq))
  have HR2 := Lib.hid (HR1.out.below (rdrewN_below _ W nq))
  clear HT0 HR1 y1 p1
  generalize W.drewN nq = W2 at *
  by_cases heq : epoch = tk
  case' pos =>
    have hle : ¬ tk < epoch := by omega
    obtain ⟨hD, hQ⟩ := HAd.out.1 heq
    clear heq
    have y1 := HT2.out.mb.cells.2.1
    simp only at y1
    have p1 := HR2.out.at_.p1
    rw [Htk.out] at p1
    go_upto_region 7 with fail
    go_quiet (fail)
    have HT12 := Lib.hid (HT2.out.below (rdrewN_below _ W2 nq))
    have HR12 := Lib.hid (HR2.out.below (rdrewN_below _ W2 nq))
    clear HT2 HR2 y1 p1
    generalize W2.drewN nq = W12 at *
    replace HR12 : Hid (RT W12 rB LB n Da tR bB cap bl f K Qa) := Lib.hid (by rw [hD, hQ]; exact HR12.out)
    clear hD hQ hle
  case' neg =>
    have hgt : tk < epoch := by omega
    obtain ⟨hE0, hD, hQ⟩ := HAd.out.2 heq
    have HE0 := Lib.hid hE0
    clear hE0
    have y1 := HT2.out.mb.cells.2.1
    simp only at y1
    have p1 := HR2.out.at_.p1
    rw [Htk.out] at p1
    go_upto_region 7 with fail
    go_quiet (fail)
    have HT7 := Lib.hid (HT2.out.below (rdrewN_below _ W2 nq))
    have HR7 := Lib.hid (HR2.out.below (rdrewN_below _ W2 nq))
    clear HT2 HR2 y1 p1
    generalize W2.drewN nq = W7 at *
    have y1 := HT7.out.mb.cells.2.1
    simp only at y1
    go_upto_region 9 with (first
      | (go_at_call 35; refine (HEn.out W7).mono ?_; rintro e8 w8 ⟨aE, nE, cE, rfl, hrow, hfr, hb8⟩
         have HT8 := Lib.hid (HT7.out.below hb8)
         have HR8 := Lib.hid (HR7.out.below hb8)
         have HRw := Lib.hid hrow
         have HFr := Lib.hid hfr
         have HA8 := Lib.hid HT7.out.ab.lt
         have HW8 := Lib.hid HT7.out.bu.size
         clear hrow hfr hb8))
    clear HT7 HR7 y1
    have HKK : Hid (∀ w', But [rB, LB, K 0, A] w8 w' → w'.cell? ⟨tR, 0, none⟩ = some (.pointer (some ⟨K 0, 0, none⟩)) ∧ (convert 50 9 (.slice aE nE cE)).run Tryz.prog w' = .ok (.string (C.str en)) w') := Lib.hid fun w' hb => by
      have hk2 := HK0.out.2.1
      have hlo := HT8.out.lo
      have htl := HNt.out tR HK0.out.2.2
      have hmem : ∀ y, y ∈ [rB, LB, K 0, A] → y ∈ [rB, LB, K 0] ∨ y = A := fun y hy => by simp at hy ⊢; omega
      refine ⟨?_, rconv (row_but HRw.out hb (.inr fun b off hq hm => ?_))⟩
      · rw [hb.cell (b := tR) (o := 0) HR8.out.at_.lt (fun hm => by rcases hmem _ hm with h1 | h1; exact (hk2 _ h1).1 rfl; omega)]; exact HR8.out.at_.p0
      · have g1 := HFr.out b off hq
        have g2 := HA8.out
        have g3 := HW8.out
        rcases hmem _ hm with h1 | h1
        · have := HNt.out _ (HK0.out.1 _ h1); omega
        · omega
    have HKK0 := HKK.out w8 (But.refl _ _)
    have a6 := HT8.out.ab.cells.2.2.2.2.2.2.1
    have af := HT8.out.ab.fz 6
    simp only at a6
    go_region_held3 (fun w' => w'.cell? ⟨tR, 0, none⟩ = some (.pointer (some ⟨K 0, 0, none⟩)) ∧ (convert 50 9 (.slice aE nE cE)).run Tryz.prog w' = .ok (.string (C.str en)) w')
      (first
        | exact HKK.out w8 (But.refl _ _)
        | exact HKK.out _ (But.refl _ w8).drew
        | exact HKK.out _ B9.out
        | exact HKK.out _ (B9.out.set _ (.inl (by simp))))
      (first
        | (go_at_call 36; refine (HPu.out w8.drew (HRt.out _ (HR8.out.below (Below.refl _ _).drew)).1).mono ?_; rintro e9 w9 ⟨rfl, hrc, hb9⟩
           have B9' : Hid (But [rB, LB, K 0] w8 w9) := Lib.hid ((But.refl _ w8).drew.trans hb9)
           have B9 : Hid (But [rB, LB, K 0, A] w8 w9) := Lib.hid (B9'.out.mono (by intro y hy; simp at hy ⊢; omega))
           have HC9 := Lib.hid hrc
           have HT9 := Lib.hid (HT8.out.but B9'.out HK0.out.1)
           have b6 := HT9.out.ab.cells.2.2.2.2.2.2.1
           have bf := HT9.out.ab.fz 6
           simp only at b6
           clear hb9 hrc))
    have HT10 := Lib.hid (HT9.out.setE E)
    have hlo := HT9.out.lo
    have hba : But [A] w9 (w9.setCell ⟨A, 6, none⟩ (.int .i64 E)) := (But.refl [A] w9).set _ (.inl (by simp))
    have hnA : ∀ y ∈ theirs rB LB tR bB bl K, y ∉ [A] := fun y hy => by have := HNt.out y hy; simp; omega
    have HC10 := Lib.hid (HC9.out.but hba (hnA _ (mem_theirs.2 (.inl rfl))) (hnA _ (mem_theirs.2 (.inr (.inl rfl)))) (fun k hk => hnA _ (mem_theirs.2 (.inr (.inr (.inr (.inr ⟨k, hk, rfl⟩)))))))
    have HA10 : Hid (RStAt (w9.setCell ⟨A, 6, none⟩ (.int .i64 E)) tR bB cap bl K (token Q) (tab Q bl) (blk Q)) := Lib.hid (((HRt.out _ HR8.out).2.but B9'.out (fun hm => (HK0.out.2.1 _ hm).1 rfl) (fun hm => (HK0.out.2.1 _ hm).2 rfl)).but hba (hnA _ (mem_theirs.2 (.inr (.inr (.inl rfl))))) (hnA _ (mem_theirs.2 (.inr (.inr (.inr (.inl rfl)))))))
    clear HKK HKK0 a6 af b6 bf B9 B9' HT8 HR8 HRw HFr HA8 HW8 HC9 HT9 hba hlo hnA
    generalize w9.setCell ⟨A, 6, none⟩ (.int .i64 E) = W10 at *
    have a6 := HT10.out.ab.cells.2.2.2.2.2.2.1
    simp only at a6
    have hE1 : (E == 0) = true := by rw [beq_iff_eq]; exact HE0.out
    obtain ⟨f1, f2, f3⟩ := HE1.out HE0.out
    have y1 := HT10.out.mb.cells.2.1
    simp only at y1
    have q1 := HA10.out.p1
    have qf := HA10.out.fz
    go_upto_region 12 with fail
    have hbt : But [tR] W10 (W10.setCell ⟨tR, 1, none⟩ (.int .i64 epoch)) := (But.refl [tR] W10).set _ (.inl (by simp))
    have HT12 := Lib.hid (HT10.out.but hbt (fun x hx => by simp at hx; rw [hx]; exact HK0.out.2.2))
    have HC12 := Lib.hid (HC10.out.but hbt (by have := HTd.out.1; simp; omega) (by have := HTd.out.1; simp; omega) (fun j hj => by have := HTd.out.2 j hj; simp; omega))
    have HR12 : Hid (RT (W10.setCell ⟨tR, 1, none⟩ (.int .i64 epoch)) rB LB n Da tR bB cap bl f K Qa) := Lib.hid (by rw [hD, hQ]; exact ⟨HC12.out, (HA10.out.setTk epoch).congr f1 f3 fun j => by rw [f2]; exact ⟨rfl, rfl, rfl⟩, HTd.out.1, HTd.out.2⟩)
    clear hbt a6 y1 q1 qf HT10 HC10 HA10 HC12 f1 f2 f3 hD hQ hgt
    generalize W10.setCell ⟨tR, 1, none⟩ (.int .i64 epoch) = W12 at *
    have hE0 := HE0.out
    subst hE0
    clear HE0
  all_goals
    have d2 : decide ((bl : Int) ≤ block) = false := decide_eq_false (by omega)
    have y0 := HT12.out.mb.cells.1
    simp only at y0
    have a6 := HT12.out.ab.cells.2.2.2.2.2.2.1
    simp only at a6
    go_upto_region 15 with fail
    clear y0 a6
    have y4 := HT12.out.mb.cells.2.2.2.2.1
    simp only at y4
    have p2 := HR12.out.at_.p2
    go_quiet (fail)
    have HT15 := Lib.hid (HT12.out.below (rdrewN_below _ W12 nq))
    have HR15 := Lib.hid (HR12.out.below (rdrewN_below _ W12 nq))
    clear HT12 HR12 y4 p2
    generalize W12.drewN nq = W15 at *
    obtain ⟨p3, p4, p5, p6⟩ := HP3.out _ HR15.out
    obtain ⟨c0, c1, c2, c3, c4, c5, c6, c7, c8, c9, c10, c11, c12⟩ := HT15.out.ab.cells
    have af := HT15.out.ab.fz
    simp only at c0 c1 c2 c3 c4 c5 c6 c7 c8 c9 c10 c11 c12
    go_upto_region 18 with fail
    have HT17 := Lib.hid (HT15.out.setT X)
    have HR17 := Lib.hid (HR15.out.own (w := w) HNt.out (((((But.refl [A] W15).set (p := ⟨A, 7, none⟩) (.int .i64 X.a) (.inl (by simp))).set (p := ⟨A, 8, none⟩) (.int .i64 X.b) (.inl (by simp))).set (p := ⟨A, 9, none⟩) (.int .i64 X.c) (.inl (by simp))).set (p := ⟨A, 10, none⟩) (.int .i64 X.d) (.inl (by simp))) (by have := HT15.out.lo; simp; omega))
    clear HT15 HR15 p3 p4 p5 p6 c0 c1 c2 c3 c4 c5 c6 c7 c8 c9 c10 c11 c12 af
    generalize (((W15.setCell ⟨A, 7, none⟩ (.int .i64 X.a)).setCell ⟨A, 8, none⟩ (.int .i64 X.b)).setCell ⟨A, 9, none⟩ (.int .i64 X.c)).setCell ⟨A, 10, none⟩ (.int .i64 X.d) = W17 at *
    have y4 := HT17.out.mb.cells.2.2.2.2.1
    simp only at y4
    go_upto_region 19 with (go_at_call 20; refine (HGe.out _ HR17.out).mono ?_; rintro e5 w5 ⟨rfl, hb5⟩
                            have HT18 := Lib.hid (HT17.out.below hb5)
                            have HR18 := Lib.hid (HR17.out.below hb5)
                            have a11 := HT18.out.ab.cells.2.2.2.2.2.2.2.2.2.2.2.1
                            have a11f := HT18.out.ab.fz 11
                            simp only at a11
                            clear hb5 y4)
    have HT19 := Lib.hid (HT18.out.setS s)
    have HR19 := Lib.hid (HR18.out.own (w := w) HNt.out ((But.refl [A] w5).set (p := ⟨A, 11, none⟩) (.string s) (.inl (by simp))) (by have := HT18.out.lo; simp; omega))
    clear HT17 HR17 HT18 HR18 a11 a11f
    generalize w5.setCell ⟨A, 11, none⟩ (.string s) = W19 at *
    obtain ⟨c0, c1, c2, c3, c4, c5, c6, c7, c8, c9, c10, c11, c12⟩ := HT19.out.ab.cells
    obtain ⟨z0, z1, z2, z3, z4, z5, z6, z7, z8, z9, z10, z11, z12⟩ := HT19.out.zb.cells
    have zf := HT19.out.zb.fz
    simp only [Ml.nil] at c0 c1 c2 c3 c4 c5 c6 c7 c8 c9 c10 c11 c12 z0 z1 z2 z3 z4 z5 z6 z7 z8 z9 z10 z11 z12
    go_wp2
    exact ret_msgT (m := ⟨13, epoch, seq, nn, block, -1, 0, X.a, X.b, X.c, X.d, s, ⟨#[]⟩⟩) (v := .bool true) Tryz.results11 rfl rfl rfl (Ml.mb_set' HT19.out.zb) ⟨rfl, HR19.out.own (w := w) HNt.out ((But.refl [w.heap.size + 1] W19).sets (w.heap.size + 1) 0 (Ml.Mg.cells ⟨13, epoch, seq, nn, block, -1, 0, X.a, X.b, X.c, X.d, s, ⟨#[]⟩⟩).toList (.inl (by simp))) (by simp), HT19.out.bu.sets (w.heap.size + 1) 0 (Ml.Mg.cells ⟨13, epoch, seq, nn, block, -1, 0, X.a, X.b, X.c, X.d, s, ⟨#[]⟩⟩).toList (.inr (Nat.le_succ _))⟩

/-- a message is taken, in every case -/
theorem rtake_any (w : World) (h : RT w rB LB n d tR bB cap bl f K Q) (m : Mg) :
    Calls Tryz.prog 11 #[.pointer (some ⟨tR, 0, none⟩), msgV m] w fun e w' =>
      e = .returned (.tuple #[msgV (takA n f bl d Q m), .bool (takI n f bl d Q m)]) ∧ RT w' rB LB n (takD n f bl d Q m) tR bB cap bl f K (takC n f bl d Q m) ∧ But (theirs rB LB tR bB bl K) w w' := by
  cases hc : can m with
  | false =>
    have e1 : takI n f bl d Q m = false := by unfold takI; rw [hc]; rfl
    have e2 : takA n f bl d Q m = Ml.nil := by unfold takA; rw [if_pos e1]
    have e3 : takD n f bl d Q m = d := by unfold takD; rw [if_pos hc]
    have e4 : takC n f bl d Q m = Q := by unfold takC; rw [if_pos hc]
    rw [e1, e2, e3, e4]
    have hcc : ¬ ((m.kind = 10 ∨ m.kind = 12) ∧ may m = true) := by rw [← can_iff, hc]; simp
    have key : Calls Tryz.prog 11 #[.pointer (some ⟨tR, 0, none⟩), msgV m] w fun e w' => e = .returned (.tuple #[msgV Ml.nil, .bool false]) ∧ Below w.heap.size w w' := by
      by_cases hk : m.kind = 10 ∨ m.kind = 12
      · exact rtake_may w tR m hk (by cases hm : may m with
          | false => rfl
          | true => exact absurd ⟨hk, hm⟩ hcc)
      · exact rtake_kind w tR m (fun h => hk (.inl h)) (fun h => hk (.inr h))
    refine key.mono ?_
    rintro e w' ⟨rfl, hb⟩
    exact ⟨rfl, h.below hb, (But.of_below hb).mono (by simp)⟩
  | true =>
    obtain ⟨hk, hm⟩ := (can_iff m).1 hc
    by_cases hE : admE n f d Q m.epoch = 0
    · rcases hk with hk | hk
      · have g : takE n f bl d Q m = stoE n f bl (admD n f d Q m.epoch) (admC n f d Q m.epoch) m := by unfold takE; rw [if_neg (by simp [hE]), if_neg (by omega)]
        have e1 : takI n f bl d Q m = !decide (stoE n f bl (admD n f d Q m.epoch) (admC n f d Q m.epoch) m = 30) := by unfold takI; rw [hc, g]; simp
        have e3 : takD n f bl d Q m = stoD n f bl (admD n f d Q m.epoch) (admC n f d Q m.epoch) m := by unfold takD; rw [if_neg (by simp [hc]), if_neg (by simp [hE]; omega)]
        have e4 : takC n f bl d Q m = stoC n f bl (admD n f d Q m.epoch) (admC n f d Q m.epoch) m := by unfold takC; rw [if_neg (by simp [hc]), if_neg (by simp [hE]; omega)]
        have e2 : takA n f bl d Q m = if stoE n f bl (admD n f d Q m.epoch) (admC n f d Q m.epoch) m = 30 then Ml.nil else ⟨11, m.epoch, m.seq, m.n, m.block, -1, stoE n f bl (admD n f d Q m.epoch) (admC n f d Q m.epoch) m, 0, 0, 0, 0, ⟨#[]⟩, ⟨#[]⟩⟩ := by
          unfold takA
          rw [e1]
          by_cases h30 : stoE n f bl (admD n f d Q m.epoch) (admC n f d Q m.epoch) m = 30
          · rw [if_pos h30, decide_eq_true h30, if_pos (by rfl)]
          · rw [if_neg h30, decide_eq_false h30, if_neg (by simp), if_neg (by omega), g, hk]
            rfl
        rw [e1, e2, e3, e4]
        exact rtake_sto w h m hm hk hE
      · have g : takE n f bl d Q m = loaE bl m.block := by unfold takE; rw [if_neg (by simp [hE]), if_pos hk]
        have hl : ¬ loaE bl m.block = 30 := by unfold loaE; split <;> omega
        have e1 : takI n f bl d Q m = true := by unfold takI; rw [hc, g]; simp [hl]
        have e3 : takD n f bl d Q m = admD n f d Q m.epoch := by unfold takD; rw [if_neg (by simp [hc]), if_pos (.inr hk)]
        have e4 : takC n f bl d Q m = admC n f d Q m.epoch := by unfold takC; rw [if_neg (by simp [hc]), if_pos (.inr hk)]
        have hbk : -1 ≤ m.block := ((Ml.may_iff m).1 hm).2.2.2.2.1.1
        by_cases hb : (bl : Int) ≤ m.block
        · have hz : m.block ≠ -1 ∧ isB bl m.block = false := by
            refine ⟨by omega, ?_⟩
            unfold isB
            rw [decide_eq_false (show ¬ m.block < (bl : Int) by omega), Bool.and_false]
          have e2 : takA n f bl d Q m = ⟨13, m.epoch, m.seq, m.n, m.block, -1, 2, 0, 0, 0, 0, ⟨#[]⟩, ⟨#[]⟩⟩ := by
            unfold takA
            rw [e1, if_neg (by simp), if_pos ⟨hk, hE⟩, g]
            unfold loaE loaT loaS getV
            rw [if_pos hz, if_pos hz, if_neg (by rw [hz.2]; decide)]
            rfl
          rw [e1, e2, e3, e4]
          exact rtake_loaN w h m hm hk hE hb
        · have hz : ¬ (m.block ≠ -1 ∧ isB bl m.block = false) := by
            rintro ⟨h1, h2⟩
            unfold isB at h2
            rw [decide_eq_true (show 0 ≤ m.block by omega), decide_eq_true (show m.block < (bl : Int) by omega)] at h2
            cases h2
          have e2 : takA n f bl d Q m = ⟨13, m.epoch, m.seq, m.n, m.block, -1, 0, (tab (admC n f d Q m.epoch) bl).a, (tab (admC n f d Q m.epoch) bl).b, (tab (admC n f d Q m.epoch) bl).c, (tab (admC n f d Q m.epoch) bl).d, (getV bl (admC n f d Q m.epoch) m.block).2.2, ⟨#[]⟩⟩ := by
            unfold takA
            rw [e1, if_neg (by simp), if_pos ⟨hk, hE⟩, g]
            unfold loaE loaT loaS
            rw [if_neg hz, if_neg hz]
          rw [e1, e2, e3, e4]
          exact rtake_loaY w h m hm hk hE hb
    · have g : takE n f bl d Q m = admE n f d Q m.epoch := by unfold takE; rw [if_pos hE]
      have e1 : takI n f bl d Q m = !decide (admE n f d Q m.epoch = 30) := by unfold takI; rw [hc, g]; simp
      have e3 : takD n f bl d Q m = admD n f d Q m.epoch := by unfold takD; rw [if_neg (by simp [hc]), if_pos (.inl hE)]
      have e4 : takC n f bl d Q m = admC n f d Q m.epoch := by unfold takC; rw [if_neg (by simp [hc]), if_pos (.inl hE)]
      have e2 : takA n f bl d Q m = if admE n f d Q m.epoch = 30 then Ml.nil else ⟨m.kind + 1, m.epoch, m.seq, m.n, m.block, -1, admE n f d Q m.epoch, 0, 0, 0, 0, ⟨#[]⟩, ⟨#[]⟩⟩ := by
        unfold takA
        rw [e1]
        by_cases h30 : admE n f d Q m.epoch = 30
        · rw [if_pos h30, decide_eq_true h30, if_pos (by rfl)]
        · rw [if_neg h30, decide_eq_false h30, if_neg (by simp), if_neg (by intro h; exact hE h.2), g]
      rw [e1, e2, e3, e4]
      by_cases ht : m.epoch < token Q
      · have a1 : admE n f d Q m.epoch = 24 := by unfold admE; rw [if_pos ht]
        have a2 : admD n f d Q m.epoch = d := by unfold admD; rw [if_pos (by omega)]
        have a3 : admC n f d Q m.epoch = Q := by unfold admC; rw [if_pos (by omega)]
        rw [a1, a2, a3, if_neg (by decide)]
        rcases hk with hk | hk
        · rw [hk]; exact rtake_old10 w h m hm hk ht
        · rw [hk]; exact rtake_old12 w h m hm hk ht
      · have ht2 : token Q < m.epoch := by
          by_cases h0 : m.epoch = token Q
          · exact absurd (by unfold admE; rw [if_neg ht, if_pos h0]) hE
          · omega
        have a1 : admE n f d Q m.epoch = putE n f d Q 0 (tokT m.epoch) := by unfold admE; rw [if_neg ht, if_neg (by omega)]
        have a2 : admD n f d Q m.epoch = putD n f d Q 0 (tokT m.epoch) := by unfold admD; rw [if_neg (by omega)]
        have a3 : admC n f d Q m.epoch = putC n f d Q 0 (tokT m.epoch) := by unfold admC; rw [if_neg (by omega)]
        rw [a1] at hE
        rw [a1, a2, a3]
        rcases hk with hk | hk
        · rw [hk]; exact rtake_err10 w h m hm hk ht2 hE
        · rw [hk]; exact rtake_err12 w h m hm hk ht2 hE
end
end Go.Proofs.YtofhijnfbilieaaGreat.Bk
