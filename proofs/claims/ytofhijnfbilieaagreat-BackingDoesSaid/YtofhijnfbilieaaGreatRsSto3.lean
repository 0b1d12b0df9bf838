/-
  The document's own store: a message's bytes are stored.
-/
import Derived.Test.YtofhijnfbilieaaGreatJRA
import Derived.Test.YtofhijnfbilieaaGreatJCR
import Derived.StillTailTactics
namespace Go.Proofs.YtofhijnfbilieaaGreat.Bk
open Go.RowKit
open Ml (Mg may msgV)
open C (RecAt RecOwn Own i64s strs)
set_option linter.unusedVariables false
set_option linter.unusedSimpArgs false
set_option maxRecDepth 20000

theorem rconv {w : World} {a : Option Addr} {m c : Nat} {l : List UInt8} (h : C.Row w a m c (C.u8s l)) : (convert 50 9 (.slice a m c)).run Tryz.prog w = .ok (.string (C.str l)) w := conv_row h

/-- the bytes of a block's record -/
theorem renc_st (W : World) (s : Sd) (hs : s.Ok) :
    Calls Tryz.prog 35 #[.agg #[.int .i64 30, .slice (some ⟨W.heap.size, 0, none⟩) 6 6, .slice (some ⟨W.heap.size + 1, 0, none⟩) 1 1]] ((W.alloc (.cells #[.int .i64 s.ep, .int .i64 s.sq, .int .i64 s.t.a, .int .i64 s.t.b, .int .i64 s.t.c, .int .i64 s.t.d] 2)).alloc (.cells #[.string s.data] 9)) fun e w' =>
      ∃ a n cap, e = .returned (.tuple #[.slice a n cap, .int .i64 0]) ∧ C.Row w' a n cap (C.u8s (C.M.enc (stRec s))) ∧ (∀ b off, a = some ⟨b, off, none⟩ → W.heap.size ≤ b) ∧ Below W.heap.size W w' := by
  have h1 := (C.own_row (C.own_lit 2 W W.heap.size (i64s [s.ep, s.sq, s.t.a, s.t.b, s.t.c, s.t.d]) (Nat.le_refl _) (by simp [i64s]))).1
  have h2 := st_at (s := s) h1
  have h3 := C.refencode_yes _ _ _ _ _ _ _ _ h2 (st_may hs).1 (st_may hs).2
  have e1 : (W.alloc (.cells (i64s [s.ep, s.sq, s.t.a, s.t.b, s.t.c, s.t.d]).toArray 2)).heap.size = W.heap.size + 1 := by simp
  rw [e1] at h3
  refine Calls.mono h3 ?_
  rintro e w' ⟨a, cap, rfl, ho, hb⟩
  have hb0 : Below W.heap.size W ((W.alloc (.cells (i64s [s.ep, s.sq, s.t.a, s.t.b, s.t.c, s.t.d]).toArray 2)).alloc (.cells #[.string s.data] 9)) := ((Below.refl _ _).alloc (Nat.le_refl _) _).alloc (by simp) _
  exact ⟨a, _, cap, rfl, (C.own_row ho).1, fun b off hq => Nat.le_trans hb0.size ((C.own_row ho).2 b off hq).1, hb0.trans (hb.mono hb0.size)⟩

section
variable {rB LB n : Nat} {d : M.Dv} {tR bB cap bl f : Nat} {K : Nat → Nat} {Q : Cs}

/-- what stays while a message's bytes are stored -/
structure JS (w : World) (P0 Pv Pt : Nat) (m : Mg) (rB LB n : Nat) (d : M.Dv) (tR bB cap bl f : Nat) (K : Nat → Nat) (Q : Cs) (X : T4) (w' : World) : Prop where
  mb : Bo w' P0 m.cells 37
  vb : Bo w' Pv #[.int .i64 m.epoch, .int .i64 m.seq] 52
  tb : N4 w' Pt 0 X
  rt : RT w' rB LB n d tR bB cap bl f K Q
  be : Below w.heap.size w w'
  lo : w.heap.size ≤ P0 ∧ P0 < Pv ∧ Pv < Pt
  nt : ∀ x ∈ theirs rB LB tR bB bl K, x < w.heap.size
section
variable {w w' w'' : World} {P0 Pv Pt : Nat} {m : Mg} {X : T4}
theorem JS.below (h : JS w P0 Pv Pt m rB LB n d tR bB cap bl f K Q X w') (hb : Below w'.heap.size w' w'') : JS w P0 Pv Pt m rB LB n d tR bB cap bl f K Q X w'' :=
  ⟨h.mb.below hb h.mb.lt, h.vb.below hb h.vb.lt, h.tb.below hb h.tb.lt, h.rt.below hb, h.be.trans (hb.mono h.be.size), h.lo, h.nt⟩
theorem JS.putAt (h : JS w P0 Pv Pt m rB LB n d tR bB cap bl f K Q X w') {k : Nat} (hk : k < 4) (v : Int) : JS w P0 Pv Pt m rB LB n d tR bB cap bl f K Q (X.put k v) (w'.setCell ⟨Pt, k, none⟩ (.int .i64 v)) := by
  have hlo := h.lo
  have htb := h.tb.putAt hk v
  rw [Nat.zero_add] at htb
  exact ⟨h.mb.other (p := ⟨Pt, k, none⟩) (by show Pt ≠ P0; omega) _, h.vb.other (p := ⟨Pt, k, none⟩) (by show Pt ≠ Pv; omega) _, htb, h.rt.but ((But.refl [Pt] w').set (p := ⟨Pt, k, none⟩) _ (.inl (by simp))) (fun x hx hm => by have := h.nt x hm; simp at hx; omega), h.be.setCell (p := ⟨Pt, k, none⟩) (by show w.heap.size ≤ Pt; omega) _, h.lo, h.nt⟩
theorem JS.start (h : RT w' rB LB n d tR bB cap bl f K Q) (hm : Bo w' P0 m.cells 37) (hv : Bo w' Pv #[.int .i64 m.epoch, .int .i64 m.seq] 52) (hb : Below w.heap.size w w') (hl : w.heap.size ≤ P0 ∧ P0 < Pv) (hn : ∀ x ∈ theirs rB LB tR bB bl K, x < w.heap.size) (X : T4) :
    JS w P0 Pv w'.heap.size m rB LB n d tR bB cap bl f K Q X (w'.alloc (.cells #[.int .i64 X.a, .int .i64 X.b, .int .i64 X.c, .int .i64 X.d] 35)) := by
  have hn4 := (Below.refl w'.heap.size w').alloc (Nat.le_refl _) (.cells #[.int .i64 X.a, .int .i64 X.b, .int .i64 X.c, .int .i64 X.d] 35)
  exact ⟨hm.below hn4 hm.lt, hv.below hn4 hv.lt, n4_new w' X _, h.below hn4, hb.trans (hn4.mono hb.size), ⟨hl.1, hl.2, hv.lt⟩, hn⟩
end

set_option maxHeartbeats 8000000 in
theorem rsto_put (w : World) (h : RT w rB LB n d tR bB cap bl f K Q) (m : Mg) (hm : may m = true) (k : Nat) (hk : k < bl) (hbk : m.block = (k : Int)) (h8 : m.data.size = 8) (hab : above m.epoch m.seq (blk Q k).ep (blk Q k).sq = true) :
    Calls Tryz.prog 37 #[.pointer (some ⟨tR, 0, none⟩), msgV m] w fun e w' => e = .returned (.int .i64 (putE n f d Q (k + 1) (stT (newS bl Q m)))) ∧ RT w' rB LB n (putD n f d Q (k + 1) (stT (newS bl Q m))) tR bB cap bl f K (putC n f d Q (k + 1) (stT (newS bl Q m))) ∧ But (theirs rB LB tR bB bl K) w w' := by
  have hbl := h.at_.bl1
  have hcp := h.at_.cp
  have hgn := (h.rc.gn (k + 1) (by omega)).2
  have HB := Lib.hid ((Below.refl w.heap.size w).alloc (Nat.le_refl _) (.cells m.cells 37))
  have HM := Lib.hid (Bo.new w m.cells 37)
  have HS := Lib.hid (h.below HB.out)
  have HNt := Lib.hid h.lts
  have hsd := newS_ok (bl := bl) (C := Q) hm h8
  have HEn : Hid (∀ W : World, Calls Tryz.prog 35 _ _ _) := Lib.hid fun W => renc_st W (newS bl Q m) hsd
  have HPu : Hid (∀ w', RC w' rB LB n d bl f K Q → Calls Tryz.prog 36 _ w' _) := Lib.hid fun w' h => rput_rc w' h (k + 1) (by omega) (stT (newS bl Q m)) (stT_small hsd.2.2.1)
  have hT : (tab Q bl).le (newS bl Q m).t := T4.le_trans (T4.le_up _ _).1 (T4.le_bump _ _ _)
  have HE1 : Hid (putE n f d Q (k + 1) (stT (newS bl Q m)) = 0 → token (putC n f d Q (k + 1) (stT (newS bl Q m))) = token Q ∧ (∀ j, blk (putC n f d Q (k + 1) (stT (newS bl Q m))) j = if j = k then newS bl Q m else blk Q j) ∧ tab (putC n f d Q (k + 1) (stT (newS bl Q m))) bl = (newS bl Q m).t) := Lib.hid fun h0 => by
    obtain ⟨g1, g2⟩ := put_blk (n := n) (f := f) (d := d) hgn hsd
    have g3 : ∀ j, blk (putC n f d Q (k + 1) (stT (newS bl Q m))) j = if j = k then newS bl Q m else blk Q j := fun j => by
      rw [g2]
      by_cases hj : j = k
      · rw [if_pos ⟨h0, hj⟩, if_pos hj]
      · rw [if_neg (fun h => hj h.2), if_neg hj]
    exact ⟨g1, g3, rtab_put hk hT g3⟩
  have HE2 : Hid (putE n f d Q (k + 1) (stT (newS bl Q m)) ≠ 0 → putC n f d Q (k + 1) (stT (newS bl Q m)) = Q) := Lib.hid fun h0 => by
    rcases putC_ways n f d Q (k + 1) (stT (newS bl Q m)) hgn with ⟨g1, _⟩ | ⟨_, g2⟩
    · exact absurd g1 h0
    · exact g2
  have HUp : Hid (upT m (tab Q bl) 4 = (newS bl Q m).t) := Lib.hid (upT_all m (tab Q bl))
  have HSd : Hid ((newS bl Q m).ep = m.epoch ∧ (newS bl Q m).sq = m.seq ∧ (newS bl Q m).data = m.data) := Lib.hid ⟨rfl, rfl, rfl⟩
  have HAb := fun w' => Lib.hid (rabove_any w' m.epoch m.seq (blk Q k).ep (blk Q k).sq)
  rw [hab] at HAb
  have HQ : Hid (∀ w', RT w' rB LB n d tR bB cap bl f K Q → w'.cell? ⟨tR, 2, none⟩ = some (.slice (some ⟨bB, 0, none⟩) bl cap) ∧ w'.cell? ⟨bB, k * 4 + 1, none⟩ = some (.int .i64 (blk Q k).ep) ∧ w'.cell? ⟨bB, k * 4 + 1 + 1, none⟩ = some (.int .i64 (blk Q k).sq)) := Lib.hid fun w' h => ⟨h.at_.p2, (h.at_.qb k hk).2.1, (h.at_.qb k hk).2.2.1⟩
  have HQ2 : Hid (∀ w', RT w' rB LB n d tR bB cap bl f K Q → w'.cell? ⟨bB, k * 4, none⟩ = some (.pointer (some ⟨K (k + 1), 0, none⟩))) := Lib.hid fun w' h => (h.at_.qb k hk).1
  have HKt : Hid (K (k + 1) ∈ theirs rB LB tR bB bl K ∧ (∀ y ∈ [rB, LB, K (k + 1)], y ≠ tR ∧ y ≠ bB) ∧ (∀ y ∈ [rB, LB, K (k + 1)], y ∈ theirs rB LB tR bB bl K) ∧ tR ∈ theirs rB LB tR bB bl K ∧ bB ∈ theirs rB LB tR bB bl K ∧ (∀ j, j ≤ bl → K j ≠ tR ∧ K j ≠ bB)) := Lib.hid (by
    have h1 : K (k + 1) ∈ theirs rB LB tR bB bl K := mem_theirs.2 (.inr (.inr (.inr (.inr ⟨k + 1, by omega, rfl⟩))))
    have h2 := h.td
    have h3 := h.tk (k + 1) (by omega)
    refine ⟨h1, fun y hy => ?_, fun y hy => ?_, mem_theirs.2 (.inr (.inr (.inl rfl))), mem_theirs.2 (.inr (.inr (.inr (.inl rfl)))), h.tk⟩
    · simp only [List.mem_cons, List.not_mem_nil, or_false] at hy
      rcases hy with rfl | rfl | rfl
      · exact ⟨fun e => h2.1 e.symm, fun e => h2.2.2.1 e.symm⟩
      · exact ⟨fun e => h2.2.1 e.symm, fun e => h2.2.2.2 e.symm⟩
      · exact h3
    · simp only [List.mem_cons, List.not_mem_nil, or_false] at hy
      rcases hy with rfl | rfl | rfl
      · exact mem_theirs.2 (.inl rfl)
      · exact mem_theirs.2 (.inr (.inl rfl))
      · exact h1)
  have HRc : Hid (∀ w', RT w' rB LB n d tR bB cap bl f K Q → RC w' rB LB n d bl f K Q ∧ RStAt w' tR bB cap bl K (token Q) (tab Q bl) (blk Q)) := Lib.hid fun w' h => ⟨h.rc, h.at_⟩
  have HTd := Lib.hid (And.intro h.td h.tk)
  have HP3 : Hid (∀ w', RT w' rB LB n d tR bB cap bl f K Q → w'.cell? ⟨tR, 3, none⟩ = some (.int .i64 (tab Q bl).a) ∧ w'.cell? ⟨tR, 4, none⟩ = some (.int .i64 (tab Q bl).b) ∧ w'.cell? ⟨tR, 5, none⟩ = some (.int .i64 (tab Q bl).c) ∧ w'.cell? ⟨tR, 6, none⟩ = some (.int .i64 (tab Q bl).d)) := Lib.hid fun w' h => ⟨h.at_.p3, h.at_.p4, h.at_.p5, h.at_.p6⟩
  have hstT : stT (newS bl Q m) = C.str (C.M.enc (stRec (newS bl Q m))) := rfl
  generalize putE n f d Q (k + 1) (stT (newS bl Q m)) = E at *
  generalize putD n f d Q (k + 1) (stT (newS bl Q m)) = D at *
  generalize putC n f d Q (k + 1) (stT (newS bl Q m)) = C2 at *
  rw [hstT] at HPu
  generalize newS bl Q m = s at *
  generalize hTq : tab Q bl = T at *
  have HTq := Lib.hid hTq
  clear hTq
  obtain ⟨e1, hbe⟩ : ∃ x, (blk Q k).ep = x := ⟨_, rfl⟩
  obtain ⟨s1, hbs⟩ : ∃ x, (blk Q k).sq = x := ⟨_, rfl⟩
  rw [hbe, hbs] at HAb HQ
  have m4 := HM.out.cell 4
  have p2 := HS.out.at_.p2
  simp only [msgV, Ml.Mg.cells, List.getElem?_toArray, List.getElem?_cons_zero, List.getElem?_cons_succ] at HB HM HS p2 m4 ⊢
  have h8' : ((m.data.size : Int) != 8) = false := by rw [bne_eq_false_iff_eq]; omega
  have g0 : (0 : Int) ≤ (k : Int) := by omega
  have g1 : (k : Int) < (bl : Int) := by omega
  have g2 : (bl : Int) ≤ 32 := by omega
  have d1 : decide ((k : Int) < 0) = false := decide_eq_false (by omega)
  have d2 : decide ((bl : Int) ≤ (k : Int)) = false := decide_eq_false (by omega)
  have Hbk := Lib.hid hbk
  have Hk := Lib.hid hk
  clear h hab hk h8 hbl hcp hgn hsd hT hstT hbe hbs hm hbk
  go_enter Tryz.func37, Tryz.ntmps37
  go_upto_region 1 with fail
  generalize w.alloc (.cells #[.int .i64 m.kind, .int .i64 m.epoch, .int .i64 m.seq, .int .i64 m.n, .int .i64 m.block, .int .i64 m.client, .int .i64 m.e, .int .i64 m.t0, .int .i64 m.t1, .int .i64 m.t2, .int .i64 m.t3, .string m.data, .string m.row] 37) = W0 at *
  rw [Hbk.out] at m4
  go_quiet (fail)
  have HM1 := Lib.hid (HM.out.below (rdrewN_below _ W0 nq) HM.out.lt)
  have HB1 := Lib.hid (HB.out.trans (rdrewN_below _ W0 nq))
  have HS1 := Lib.hid (HS.out.below (rdrewN_below _ W0 nq))
  clear HM HB HS p2 m4
  generalize W0.drewN nq = W1 at *
  have m1 := HM1.out.cell 1
  have m2 := HM1.out.cell 2
  have m11 := HM1.out.cell 11
  simp only [List.getElem?_toArray, List.getElem?_cons_zero, List.getElem?_cons_succ] at m1 m2 m11
  go_upto_region 6 with fail
  have hn := (Below.refl W1.heap.size W1).alloc (Nat.le_refl _) (.cells #[.int .i64 m.epoch, .int .i64 m.seq] 52)
  have HV := Lib.hid (Bo.new W1 #[.int .i64 m.epoch, .int .i64 m.seq] 52)
  have HM2 := Lib.hid (HM1.out.below hn HM1.out.lt)
  have HB2 := Lib.hid (HB1.out.trans (hn.mono HB1.out.size))
  have HS2 := Lib.hid (HS1.out.below hn)
  have HPv := Lib.hid HM1.out.lt
  clear hn m1 m2 m11 HM1 HB1 HS1
  generalize W1.alloc (.cells #[.int .i64 m.epoch, .int .i64 m.seq] 52) = W2 at *
  generalize W1.heap.size = Pv at *
  have HK : Hid (∀ w', Below W2.heap.size W2 w' → V6 w' w.heap.size Pv tR bB cap bl k m.epoch m.seq e1 s1) := Lib.hid fun w' hb =>
    ⟨((HM2.out.below hb HM2.out.lt).cell 4).trans (by show some (Value.int .i64 m.block) = _; rw [Hbk.out]), (HV.out.below hb HV.out.lt).cell 0, (HV.out.below hb HV.out.lt).cell 1, HQ.out _ (HS2.out.below hb)⟩
  unfold V6 at HK
  have HK0 := HK.out W2 (Below.refl _ _)
  go_region_held3 (fun w' => w'.cell? ⟨w.heap.size, 4, none⟩ = some (.int .i64 (k : Int)) ∧ w'.cell? ⟨Pv, 0, none⟩ = some (.int .i64 m.epoch) ∧ w'.cell? ⟨Pv, 1, none⟩ = some (.int .i64 m.seq) ∧ w'.cell? ⟨tR, 2, none⟩ = some (.slice (some ⟨bB, 0, none⟩) bl cap) ∧
      w'.cell? ⟨bB, k * 4 + 1, none⟩ = some (.int .i64 e1) ∧ w'.cell? ⟨bB, k * 4 + 1 + 1, none⟩ = some (.int .i64 s1))
    (first
      | exact HK.out W2 (Below.refl _ _)
      | exact HK.out _ (Below.refl W2.heap.size W2).drew
      | exact HK.out _ B8.out)
    (first
      | (go_at_call 64; refine (HAb _).out.mono ?_; rintro e w8 ⟨rfl, hb8⟩
         have B8 : Hid (Below W2.heap.size W2 w8) := Lib.hid ((Below.refl W2.heap.size W2).drew.trans hb8)
         clear hb8))
  have HM8 := Lib.hid (HM2.out.below B8.out HM2.out.lt)
  have HV8 := Lib.hid (HV.out.below B8.out HV.out.lt)
  have HB8 := Lib.hid (HB2.out.trans (B8.out.mono HB2.out.size))
  have HS8 := Lib.hid (HS2.out.below B8.out)
  clear HK HK0 HM2 HV HB2 HS2 B8 HAb
  obtain ⟨p3, p4, p5, p6⟩ := HP3.out _ HS8.out
  go_wp2_with fail
  have HJ0 : Hid (JS w w.heap.size Pv w8.heap.size m rB LB n d tR bB cap bl f K Q T _) := Lib.hid (JS.start HS8.out HM8.out HV8.out HB8.out ⟨Nat.le_refl _, HPv.out⟩ HNt.out T)
  clear HM8 HV8 HB8 HS8 p3 p4 p5 p6 HPv
  generalize w8.alloc (.cells #[.int .i64 T.a, .int .i64 T.b, .int .i64 T.c, .int .i64 T.d] 35) = W9 at *
  generalize w8.heap.size = Pt at *
  go_loopw [7] (fun i wr => ∃ j : Nat, j ≤ 4 ∧ i = .int .i64 (j : Int) ∧ JS w w.heap.size Pv Pt m rB LB n d tR bB cap bl f K Q (upT m T j) wr) (fun i _ => 4 - (intOf i).toNat)
  case atStart => exact ⟨0, by omega, rfl, HJ0.out⟩
  case round =>
    obtain ⟨j, hj, rfl, hJ⟩ := hrel
    have HJ := Lib.hid hJ
    clear hJ HJ0
    by_cases hj4 : j = 4
    · subst hj4
      rw [HUp.out] at HJ
      obtain ⟨q1, q2, q3⟩ := HSd.out
      simp only [q1, q2, q3] at HEn
      have t0 := HJ.out.tb.at (k := 0) (by omega)
      have t1 := HJ.out.tb.at (k := 1) (by omega)
      have t2 := HJ.out.tb.at (k := 2) (by omega)
      have t3 := HJ.out.tb.at (k := 3) (by omega)
      have v0 := HJ.out.vb.cell 0
      have v1 := HJ.out.vb.cell 1
      have m11 := HJ.out.mb.cell 11
      simp only [Ml.Mg.cells, List.getElem?_toArray, List.getElem?_cons_zero, List.getElem?_cons_succ, Nat.zero_add] at t0 t1 t2 t3 v0 v1 m11
      replace t0 : wr.cell? ⟨Pt, 0, none⟩ = some (.int .i64 s.t.a) := t0
      replace t1 : wr.cell? ⟨Pt, 1, none⟩ = some (.int .i64 s.t.b) := t1
      replace t2 : wr.cell? ⟨Pt, 2, none⟩ = some (.int .i64 s.t.c) := t2
      replace t3 : wr.cell? ⟨Pt, 3, none⟩ = some (.int .i64 s.t.d) := t3
      have m11' : (wr.alloc (.cells #[.int .i64 m.epoch, .int .i64 m.seq, .int .i64 s.t.a, .int .i64 s.t.b, .int .i64 s.t.c, .int .i64 s.t.d] 2)).cell? ⟨w.heap.size, 11, none⟩ = some (.string m.data) := (((Below.refl wr.heap.size wr).alloc (Nat.le_refl _) _).cell (p := ⟨w.heap.size, 11, none⟩) HJ.out.mb.lt).trans m11
      go_upto_region 17 with (first
        | (go_at_call 35; refine (HEn.out wr).mono ?_; rintro e w10 ⟨aE, nE, cE, rfl, hrow, hfr, hb10⟩
           have HJ10 := Lib.hid (HJ.out.below hb10)
           have HRw := Lib.hid hrow
           have HFr := Lib.hid hfr
           have HBe := Lib.hid HJ.out.be.size
           clear hrow hfr hb10))
      clear HJ HEn t0 t1 t2 t3 v0 v1 m11 m11'
      have HKK : Hid (∀ w', But [rB, LB, K (k + 1)] w10 w' → w'.cell? ⟨tR, 2, none⟩ = some (.slice (some ⟨bB, 0, none⟩) bl cap) ∧ w'.cell? ⟨w.heap.size, 4, none⟩ = some (.int .i64 (k : Int)) ∧ w'.cell? ⟨bB, k * 4, none⟩ = some (.pointer (some ⟨K (k + 1), 0, none⟩)) ∧ (convert 50 9 (.slice aE nE cE)).run Tryz.prog w' = .ok (.string (C.str (C.M.enc (stRec s)))) w') := Lib.hid fun w' hb => by
        have hk2 := HKt.out.2.1
        refine ⟨?_, ?_, ?_, ?_⟩
        · rw [hb.cell (b := tR) (o := 2) HJ10.out.rt.at_.lt (fun hm => (hk2 _ hm).1 rfl)]; exact HJ10.out.rt.at_.p2
        · rw [hb.cell (b := w.heap.size) (o := 4) HJ10.out.mb.lt (fun hm => by have := HNt.out _ (HKt.out.2.2.1 _ hm); omega)]
          exact (HJ10.out.mb.cell 4).trans (by show some (Value.int .i64 m.block) = _; rw [Hbk.out])
        · rw [hb.cell (b := bB) (o := k * 4) HJ10.out.rt.at_.ltB (fun hm => (hk2 _ hm).2 rfl)]; exact HQ2.out _ HJ10.out.rt
        · exact rconv (row_but HRw.out hb (.inr fun b off hq hm => by have := HFr.out b off hq; have := HNt.out _ (HKt.out.2.2.1 _ hm); have := HBe.out; omega))
      have HKK0 := HKK.out w10 (But.refl _ _)
      go_region_held3 (fun w' => w'.cell? ⟨tR, 2, none⟩ = some (.slice (some ⟨bB, 0, none⟩) bl cap) ∧ w'.cell? ⟨w.heap.size, 4, none⟩ = some (.int .i64 (k : Int)) ∧ w'.cell? ⟨bB, k * 4, none⟩ = some (.pointer (some ⟨K (k + 1), 0, none⟩)) ∧ (convert 50 9 (.slice aE nE cE)).run Tryz.prog w' = .ok (.string (C.str (C.M.enc (stRec s)))) w')
        (first
          | exact HKK.out w10 (But.refl _ _)
          | exact HKK.out _ (But.refl _ w10).drew
          | exact HKK.out _ B11.out)
        (first
          | (go_at_call 36; refine (HPu.out w10.drew (HRc.out _ (HJ10.out.below (Below.refl _ _).drew).rt).1).mono ?_; rintro e w11 ⟨rfl, hrc, hb11⟩
             have B11 : Hid (But [rB, LB, K (k + 1)] w10 w11) := Lib.hid ((But.refl _ w10).drew.trans hb11)
             have HC11 := Lib.hid hrc
             clear hb11 hrc))
      have HJb := HJ10.out.mb.but B11.out (fun hm => by have := HNt.out _ (HKt.out.2.2.1 _ hm); omega)
      have HJv := HJ10.out.vb.but B11.out (fun hm => by have := HNt.out _ (HKt.out.2.2.1 _ hm); have := HJ10.out.lo; omega)
      have HMb := Lib.hid HJb
      have HVb := Lib.hid HJv
      have HTb : Hid (N4 w11 Pt 0 s.t) := Lib.hid (HJ10.out.tb.of_block (B11.out.block _ HJ10.out.tb.lt (fun hm => by have := HNt.out _ (HKt.out.2.2.1 _ hm); have := HJ10.out.lo; omega)))
      have HAt : Hid (RStAt w11 tR bB cap bl K (token Q) T (blk Q)) := Lib.hid ((HRc.out _ HJ10.out.rt).2.but B11.out (fun hm => (HKt.out.2.1 _ hm).1 rfl) (fun hm => (HKt.out.2.1 _ hm).2 rfl))
      have HBu : Hid (But (theirs rB LB tR bB bl K) w w11) := Lib.hid (((But.of_below HJ10.out.be).mono (by simp)).trans (B11.out.mono HKt.out.2.2.1))
      have HLo := Lib.hid HJ10.out.lo
      clear HKK HKK0 B11 HRw HFr HBe HJ10 HJb HJv
      by_cases hE : E = 0
      · subst hE
        obtain ⟨f1, f2, f3⟩ := HE1.out rfl
        have hce : ((0 : Int) == 0) = true := rfl
        have p2 := HAt.out.p2
        have m4 := (HMb.out.cell 4).trans (show some (Value.int .i64 m.block) = some (.int .i64 (k : Int)) by rw [Hbk.out])
        have v0 := HVb.out.cell 0
        have v1 := HVb.out.cell 1
        simp only [List.getElem?_toArray, List.getElem?_cons_zero, List.getElem?_cons_succ] at v0 v1
        go_upto_region 19 with fail
        go_still_tail 9, (by kernel_rfl)
        change wpList _ _ _ _ _ w11.drew
        have HM12 := Lib.hid (HMb.out.below (Below.refl w11.heap.size w11).drew HMb.out.lt)
        have HT12 := Lib.hid (HTb.out.below (Below.refl w11.heap.size w11).drew HTb.out.lt)
        have HA12 := Lib.hid (HAt.out.of_blocks (w' := w11.drew) rfl rfl)
        have HC12 := Lib.hid (HC11.out.below (Below.refl w11.heap.size w11).drew)
        have HU12 := Lib.hid HBu.out.drew
        clear HMb HTb HAt HC11 HBu p2 m4 v0 v1
        generalize w11.drew = w12 at *
        obtain ⟨z0, z1, z2, z3⟩ := HA12.out.qb k Hk.out
        have z2' : w12.cell? ⟨bB, k * 4 + 1 + 1, none⟩ = some (.int .i64 (blk Q k).sq) := z2
        have zf := HA12.out.fb
        go_upto_region 20 with fail
        have hcb : But [bB] w12 ((w12.setCell ⟨bB, k * 4 + 1, none⟩ (.int .i64 m.epoch)).setCell ⟨bB, k * 4 + 1 + 1, none⟩ (.int .i64 m.seq)) := ((But.refl [bB] w12).set _ (.inl (by simp))).set _ (.inl (by simp))
        have hPb : w.heap.size ≠ bB ∧ Pt ≠ bB := by have := HNt.out bB HKt.out.2.2.2.2.1; have := HLo.out; omega
        have HA13 : Hid (RStAt ((w12.setCell ⟨bB, k * 4 + 1, none⟩ (.int .i64 m.epoch)).setCell ⟨bB, k * 4 + 1 + 1, none⟩ (.int .i64 m.seq)) tR bB cap bl K (token Q) T _) := Lib.hid (HA12.out.setVer Hk.out m.epoch m.seq)
        have HM13 := Lib.hid (HM12.out.but hcb (by simp [hPb.1]))
        have HT13 := Lib.hid (HT12.out.of_block (hcb.block _ HT12.out.lt (by simp [hPb.2])))
        have HC13 := Lib.hid (HC12.out.but hcb (by have := HTd.out.1; simp; omega) (by have := HTd.out.1; simp; omega) (fun j hj => by have := HTd.out.2 j hj; simp; omega))
        have HU13 := Lib.hid (HU12.out.trans (hcb.mono (fun y hy => by simp at hy; rw [hy]; exact HKt.out.2.2.2.2.1)))
        clear hcb z0 z1 z2 z3 z2' zf HA12 HM12 HT12 HC12 HU12
        generalize (w12.setCell ⟨bB, k * 4 + 1, none⟩ (.int .i64 m.epoch)).setCell ⟨bB, k * 4 + 1 + 1, none⟩ (.int .i64 m.seq) = w13 at *
        have p2 := HA13.out.p2
        have m4 := (HM13.out.cell 4).trans (show some (Value.int .i64 m.block) = some (.int .i64 (k : Int)) by rw [Hbk.out])
        have m11 := HM13.out.cell 11
        simp only [Ml.Mg.cells, List.getElem?_toArray, List.getElem?_cons_zero, List.getElem?_cons_succ] at m11
        go_still_tail 10, (by kernel_rfl)
        change wpList _ _ _ _ _ w13.drew
        have HA14 := Lib.hid (HA13.out.of_blocks (w' := w13.drew) rfl rfl)
        have HT14 := Lib.hid (HT13.out.below (Below.refl w13.heap.size w13).drew HT13.out.lt)
        have HC14 := Lib.hid (HC13.out.below (Below.refl w13.heap.size w13).drew)
        have HU14 := Lib.hid HU13.out.drew
        clear HA13 HM13 HT13 HC13 HU13 p2 m4 m11
        generalize w13.drew = w14 at *
        have z3 := (HA14.out.qb k Hk.out).2.2.2
        have zf := HA14.out.fb
        go_upto_region 21 with fail
        have hcb : But [bB] w14 (w14.setCell ⟨bB, k * 4 + 3, none⟩ (.string m.data)) := (But.refl [bB] w14).set _ (.inl (by simp))
        have HA15 := Lib.hid (HA14.out.setData Hk.out m.data)
        have HT15 := Lib.hid (HT14.out.of_block (hcb.block _ HT14.out.lt (by simp [hPb.2])))
        have HC15 := Lib.hid (HC14.out.but hcb (by have := HTd.out.1; simp; omega) (by have := HTd.out.1; simp; omega) (fun j hj => by have := HTd.out.2 j hj; simp; omega))
        have HU15 := Lib.hid (HU14.out.trans (hcb.mono (fun y hy => by simp at hy; rw [hy]; exact HKt.out.2.2.2.2.1)))
        clear hcb z3 zf HA14 HT14 HC14 HU14
        generalize w14.setCell ⟨bB, k * 4 + 3, none⟩ (.string m.data) = w15 at *
        obtain ⟨t0, t1, t2, t3, tf⟩ := HT15.out
        simp only [Nat.zero_add] at t0 t1 t2 t3
        have p3 := HA15.out.p3
        have p4 := HA15.out.p4
        have p5 := HA15.out.p5
        have p6 := HA15.out.p6
        have pf := HA15.out.fz
        go_wp2
        have HA16 := Lib.hid (HA15.out.setT s.t)
        have hct : But [tR] w15 ((((w15.setCell ⟨tR, 3, none⟩ (.int .i64 s.t.a)).setCell ⟨tR, 4, none⟩ (.int .i64 s.t.b)).setCell ⟨tR, 5, none⟩ (.int .i64 s.t.c)).setCell ⟨tR, 6, none⟩ (.int .i64 s.t.d)) := ((((But.refl [tR] w15).set _ (.inl (by simp))).set _ (.inl (by simp))).set _ (.inl (by simp))).set _ (.inl (by simp))
        have HC16 := Lib.hid (HC15.out.but hct (by have := HTd.out.1; simp; omega) (by have := HTd.out.1; simp; omega) (fun j hj => by have := HTd.out.2 j hj; simp; omega))
        have HU16 := Lib.hid (HU15.out.trans (hct.mono (fun y hy => by simp at hy; rw [hy]; exact HKt.out.2.2.2.1)))
        go_ret
        exact ⟨rfl, ⟨HC16.out, HA16.out.congr f1 f3 fun j => by
          rw [f2]
          by_cases hjk : j = k
          · simp only [if_pos hjk]; exact ⟨q1, q2, q3⟩
          · simp only [if_neg hjk]; trivial, HTd.out.1, HTd.out.2⟩, HU16.out⟩
      · have hE' : (E == 0) = false := by rw [beq_eq_false_iff_ne]; exact hE
        have hC := HE2.out hE
        subst hC
        go_wp2
        go_ret
        exact ⟨rfl, ⟨HC11.out, HAt.out.congr rfl HTq.out fun j => ⟨rfl, rfl, rfl⟩, HTd.out.1, HTd.out.2⟩, HBu.out⟩
    · have i0 : (0 : Int) ≤ (j : Int) := by omega
      have i4 : (j : Int) < 4 := by omega
      have j4 : j < 4 := by omega
      have Hj4 := Lib.hid j4
      have Hup : Hid (∀ X, upT m T j = X → upT m T (j + 1) = upS m X j) := Lib.hid fun X h => by rw [← h]; rfl
      clear hj hj4
      generalize hX : upT m T j = X at *
      have Hup2 := Lib.hid (Hup.out X rfl)
      clear Hup hX
      have x1 := HJ.out.tb.at j4
      have x2 := (HJ.out.mb.cell (7 + j)).trans (msg_t4 m j4)
      rw [Nat.zero_add] at x1
      clear j4
      go_upto_region 12 with fail
      by_cases c1 : X.at j < (Mg.t4 m).at j
      case' pos =>
        go_quiet (fail)
        have HJ1 := Lib.hid (HJ.out.below (rdrewN_below _ wr nq))
        clear HJ x1 x2
        generalize wr.drewN nq = W1 at *
        have x1 := HJ1.out.tb.at Hj4.out
        have x2 := (HJ1.out.mb.cell (7 + j)).trans (msg_t4 m Hj4.out)
        have xf := HJ1.out.tb.fz j
        rw [Nat.zero_add] at x1
        go_upto_region 14 with fail
        have HJ2 : Hid (JS w w.heap.size Pv Pt m rB LB n d tR bB cap bl f K Q (if X.at j < (Mg.t4 m).at j then X.put j ((Mg.t4 m).at j) else X) _) := Lib.hid (by rw [if_pos c1]; exact HJ1.out.putAt Hj4.out ((Mg.t4 m).at j))
        clear x1 x2 xf HJ1
        generalize W1.setCell ⟨Pt, j, none⟩ (.int .i64 ((Mg.t4 m).at j)) = W3 at *
      case' neg =>
        go_quiet (fail)
        have HJ2 : Hid (JS w w.heap.size Pv Pt m rB LB n d tR bB cap bl f K Q (if X.at j < (Mg.t4 m).at j then X.put j ((Mg.t4 m).at j) else X) _) := Lib.hid (by rw [if_neg c1]; exact HJ.out.below (rdrewN_below _ wr nq))
        clear HJ x1 x2
        generalize wr.drewN nq = W3 at *
        go_upto_region 14 with fail
      all_goals
        clear c1
        have HY : Hid (∀ Y, (if X.at j < (Mg.t4 m).at j then X.put j ((Mg.t4 m).at j) else X) = Y → upS m X j = if m.client = (j : Int) ∧ Y.at j < m.n then Y.put j m.n else Y) := Lib.hid fun Y h => by rw [← h]; rfl
        generalize (if X.at j < (Mg.t4 m).at j then X.put j ((Mg.t4 m).at j) else X) = Y at *
        have HY2 := Lib.hid (Hup2.out.trans (HY.out Y rfl))
        clear HY Hup2
        have x1 := HJ2.out.tb.at Hj4.out
        have x3 := HJ2.out.mb.cell 3
        have x5 := HJ2.out.mb.cell 5
        rw [Nat.zero_add] at x1
        simp only [Ml.Mg.cells, List.getElem?_toArray, List.getElem?_cons_zero, List.getElem?_cons_succ] at x3 x5
        by_cases c2 : m.client = (j : Int)
        · have c2' : (m.client == (j : Int)) = true := by rw [beq_iff_eq]; exact c2
          by_cases c3 : Y.at j < m.n
          · have HY3 := Lib.hid (HY2.out.trans (if_pos ⟨c2, c3⟩))
            clear HY2 c2
            go_quiet (fail)
            have HJ4 := Lib.hid (HJ2.out.below (rdrewN_below _ W3 nq))
            clear HJ2 x1 x3 x5
            generalize W3.drewN nq = W4 at *
            have x1 := HJ4.out.tb.at Hj4.out
            have x3 := HJ4.out.mb.cell 3
            have xf := HJ4.out.tb.fz j
            rw [Nat.zero_add] at x1
            simp only [Ml.Mg.cells, List.getElem?_toArray, List.getElem?_cons_zero, List.getElem?_cons_succ] at x3
            go_wp2
            go_roundw
            case rel => exact ⟨j + 1, by have := Hj4.out; omega, by go_num, by rw [HY3.out]; exact HJ4.out.putAt Hj4.out m.n⟩
            case measure => have := Hj4.out; simp [intOf]; omega
          · have HY3 := Lib.hid (HY2.out.trans (if_neg (fun h => c3 h.2)))
            clear HY2 c2
            go_quiet (fail)
            go_wp2
            go_roundw
            case rel => exact ⟨j + 1, by have := Hj4.out; omega, by go_num, by rw [HY3.out]; exact HJ2.out.below (rdrewN_below _ W3 nq)⟩
            case measure => have := Hj4.out; simp [intOf]; omega
        · have c2' : (m.client == (j : Int)) = false := by rw [beq_eq_false_iff_ne]; exact c2
          have HY3 := Lib.hid (HY2.out.trans (if_neg (fun h => c2 h.1)))
          clear HY2 c2
          go_quiet (fail)
          go_wp2
          go_roundw
          case rel => exact ⟨j + 1, by have := Hj4.out; omega, by go_num, by rw [HY3.out]; exact HJ2.out.below (rdrewN_below _ W3 nq)⟩
          case measure => have := Hj4.out; simp [intOf]; omega

/-- a message's bytes are stored, in every case -/
theorem rstore_any (w : World) (h : RT w rB LB n d tR bB cap bl f K Q) (m : Mg) (hm : may m = true) :
    Calls Tryz.prog 37 #[.pointer (some ⟨tR, 0, none⟩), msgV m] w fun e w' =>
      e = .returned (.int .i64 (stoE n f bl d Q m)) ∧ RT w' rB LB n (stoD n f bl d Q m) tR bB cap bl f K (stoC n f bl d Q m) ∧ But (theirs rB LB tR bB bl K) w w' := by
  cases hb : isB bl m.block with
  | false =>
    have hf : fresh bl Q m = false := by unfold fresh; rw [hb]; rfl
    have e1 : stoE n f bl d Q m = 2 := by unfold stoE; rw [if_pos hb]
    have e2 : stoD n f bl d Q m = d := by unfold stoD; rw [hf]; rfl
    have e3 : stoC n f bl d Q m = Q := by unfold stoC; rw [hf]; rfl
    rw [e1, e2, e3]
    refine (rsto_range w h m hb).mono ?_
    rintro e w' ⟨rfl, hb'⟩
    exact ⟨rfl, h.below hb', (But.of_below hb').mono (by simp)⟩
  | true =>
    have hb' := hb
    unfold isB at hb'
    simp at hb'
    obtain ⟨k, hk⟩ := Int.eq_ofNat_of_zero_le hb'.1
    have hkl : k < bl := by omega
    by_cases h8 : m.data.size = 8
    · have hf : fresh bl Q m = above m.epoch m.seq (blk Q k).ep (blk Q k).sq := by unfold fresh; rw [hb, hk]; simp [h8]
      have e1 : stoE n f bl d Q m = if above m.epoch m.seq (blk Q k).ep (blk Q k).sq = true then putE n f d Q (k + 1) (stT (newS bl Q m)) else 0 := by
        unfold stoE; rw [hf, if_neg (by simp [hb]), if_neg (by simp [h8]), hk]; rfl
      have e2 : stoD n f bl d Q m = if above m.epoch m.seq (blk Q k).ep (blk Q k).sq = true then putD n f d Q (k + 1) (stT (newS bl Q m)) else d := by
        unfold stoD; rw [hf, hk]; rfl
      have e3 : stoC n f bl d Q m = if above m.epoch m.seq (blk Q k).ep (blk Q k).sq = true then putC n f d Q (k + 1) (stT (newS bl Q m)) else Q := by
        unfold stoC; rw [hf, hk]; rfl
      rw [e1, e2, e3]
      cases hab : above m.epoch m.seq (blk Q k).ep (blk Q k).sq with
      | false =>
        simp only [if_false, Bool.false_eq_true]
        refine (rsto_old w h m k hkl hk h8 hab).mono ?_
        rintro e w' ⟨rfl, hb'⟩
        exact ⟨rfl, h.below hb', (But.of_below hb').mono (by simp)⟩
      | true =>
        simp only [if_true]
        exact rsto_put w h m hm k hkl hk h8 hab
    · have hf : fresh bl Q m = false := by unfold fresh; simp [h8]
      have e1 : stoE n f bl d Q m = 3 := by unfold stoE; rw [if_neg (by simp [hb]), if_pos h8]
      have e2 : stoD n f bl d Q m = d := by unfold stoD; rw [hf]; rfl
      have e3 : stoC n f bl d Q m = Q := by unfold stoC; rw [hf]; rfl
      rw [e1, e2, e3]
      refine (rsto_size w h m hb h8).mono ?_
      rintro e w' ⟨rfl, hb'⟩
      exact ⟨rfl, h.below hb', (But.of_below hb').mono (by simp)⟩
end
end Go.Proofs.YtofhijnfbilieaaGreat.Bk
