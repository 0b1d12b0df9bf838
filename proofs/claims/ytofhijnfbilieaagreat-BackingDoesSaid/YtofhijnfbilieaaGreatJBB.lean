/-
  A table behind a message.
  The table of all blocks; a message's answer; a record's text.
  A message's answer; a record's text; what is loaded.
  An epoch that comes.
  A block's cell is put.
  A message's bytes are stored.
-/
import Derived.Test.YtofhijnfbilieaaGreatJBA
import Derived.BigRegion
import Derived.Deep.RegionHeld3
import Derived.Deep.RegionLaw
import Derived.Deep.RegionHeldLaw
namespace Go.Proofs.YtofhijnfbilieaaGreat.Bk
open Go.RowKit
open Ml (Mg may msgV)
set_option linter.unusedVariables false
set_option linter.unusedSimpArgs false
set_option maxRecDepth 20000

theorem cl5 {c : Int} (h : -1 ≤ c ∧ c ≤ 3) : c = -1 ∨ c = 0 ∨ c = 1 ∨ c = 2 ∨ c = 3 := by omega
theorem MB.other {w : World} {g : Nat} {m : Mg} (h : Ml.MB w g m) {p : Addr} (hp : p.block ≠ g) (v : Value) : Ml.MB (w.setCell p v) g m := by
  have := (But.refl [p.block] w).set v (p := p) (.inl (by simp))
  unfold Ml.MB
  rw [this.block g h.lt (by simp; omega)]
  exact h
theorem beh_set {w w1 : World} {x z : T4} {m : Mg} (h : N4 w1 w.heap.size 0 x ∧ Ml.MB w1 (w.heap.size + 1) m ∧ N4 w1 (w.heap.size + 1 + 1) 0 z ∧ Below w.heap.size w w1) (p q r s : Int) :
    N4 ((((w1.setCell ⟨w.heap.size, 0, none⟩ (.int .i64 p)).setCell ⟨w.heap.size, 1, none⟩ (.int .i64 q)).setCell ⟨w.heap.size, 2, none⟩ (.int .i64 r)).setCell ⟨w.heap.size, 3, none⟩ (.int .i64 s)) w.heap.size 0 ⟨p, q, r, s⟩ ∧
    Ml.MB ((((w1.setCell ⟨w.heap.size, 0, none⟩ (.int .i64 p)).setCell ⟨w.heap.size, 1, none⟩ (.int .i64 q)).setCell ⟨w.heap.size, 2, none⟩ (.int .i64 r)).setCell ⟨w.heap.size, 3, none⟩ (.int .i64 s)) (w.heap.size + 1) m ∧
    N4 ((((w1.setCell ⟨w.heap.size, 0, none⟩ (.int .i64 p)).setCell ⟨w.heap.size, 1, none⟩ (.int .i64 q)).setCell ⟨w.heap.size, 2, none⟩ (.int .i64 r)).setCell ⟨w.heap.size, 3, none⟩ (.int .i64 s)) (w.heap.size + 1 + 1) 0 z ∧
    Below w.heap.size w ((((w1.setCell ⟨w.heap.size, 0, none⟩ (.int .i64 p)).setCell ⟨w.heap.size, 1, none⟩ (.int .i64 q)).setCell ⟨w.heap.size, 2, none⟩ (.int .i64 r)).setCell ⟨w.heap.size, 3, none⟩ (.int .i64 s)) := by
  obtain ⟨h1, h2, h3, h4⟩ := h
  refine ⟨?_, ?_, ?_, ?_⟩
  · have := (((h1.set0 p).set1 q).set2 r).set3 s
    simpa using this
  · exact MB.other (MB.other (MB.other (MB.other h2 (by simp) _) (by simp) _) (by simp) _) (by simp) _
  · exact (((h3.other (by simp; omega) _).other (by simp; omega) _).other (by simp; omega) _).other (by simp; omega) _
  · exact (((h4.setCell (by simp) _).setCell (by simp) _).setCell (by simp) _).setCell (by simp) _

set_option maxHeartbeats 4000000 in
theorem behind_any (w : World) (x : T4) (m : Mg) (hc : -1 ≤ m.client ∧ m.client ≤ 3) :
    Calls Tryz.prog 58 #[t4V x, msgV m] w fun e w' => e = .returned (t4V ((x.up (Mg.t4 m)).bump m.client m.n)) ∧ Below w.heap.size w w' := by
  have HW := fun w' => Lib.hid (with_any w' x (Mg.t4 m))
  have HS := Lib.hid (fun w1 => @beh_start w x T4.zero m w1)
  have HT := Lib.hid (fun w1 => @beh_set w w1 x T4.zero m)
  generalize x.up (Mg.t4 m) = X at *
  obtain ⟨a, b, c, d⟩ := x
  obtain ⟨kind, epoch, seq, n, block, client, e, t0, t1, t2, t3, data, row⟩ := m
  obtain ⟨p, q, r, s⟩ := X
  simp only [t4V, Mg.t4, msgV, Ml.Mg.cells, T4.zero] at HW HS HT hc ⊢
  rcases cl5 hc with rfl | rfl | rfl | rfl | rfl
  case' inl => obtain ⟨A, hA⟩ : ∃ A : T4, (⟨p, q, r, s⟩ : T4).bump (-1) n = A ∧ A = ⟨p, q, r, s⟩ := ⟨_, rfl, rfl⟩
  case' inr.inl => obtain ⟨A, hA⟩ : ∃ A : T4, (⟨p, q, r, s⟩ : T4).bump 0 n = A ∧ A = ⟨max p n, q, r, s⟩ := ⟨_, rfl, rfl⟩
  case' inr.inr.inl => obtain ⟨A, hA⟩ : ∃ A : T4, (⟨p, q, r, s⟩ : T4).bump 1 n = A ∧ A = ⟨p, max q n, r, s⟩ := ⟨_, rfl, rfl⟩
  case' inr.inr.inr.inl => obtain ⟨A, hA⟩ : ∃ A : T4, (⟨p, q, r, s⟩ : T4).bump 2 n = A ∧ A = ⟨p, q, max r n, s⟩ := ⟨_, rfl, rfl⟩
  case' inr.inr.inr.inr => obtain ⟨A, hA⟩ : ∃ A : T4, (⟨p, q, r, s⟩ : T4).bump 3 n = A ∧ A = ⟨p, q, r, max s n⟩ := ⟨_, rfl, rfl⟩
  all_goals
    obtain ⟨hA, rfl⟩ := hA
    rw [hA]
    clear hA hc
    go_enter Tryz.func58, Tryz.ntmps58
    go_upto_region 2 with (first
      | (go_at_call 48; with_reducible refine (HW _).out.mono ?_; rintro e1 w1 ⟨rfl, hb1⟩
         have H0 := Lib.hid (HS.out w1 hb1)
         obtain ⟨⟨x0, x1, x2, x3, xf⟩, hM, _, _⟩ := H0.out
         simp only [Nat.zero_add] at x0 x1 x2 x3
         obtain ⟨m0, m1, m2, m3, m4, m5, m6, m7, m8, m9, m10, m11, m12⟩ := hM.cells
         have xf0 := xf 0
         have xf1 := xf 1
         have xf2 := xf 2
         have xf3 := xf 3
         clear hb1 hM))
    have H2 := Lib.hid (HT.out w1 H0.out p q r s)
    clear x0 x1 x2 x3 xf xf0 xf1 xf2 xf3 m0 m1 m2 m3 m4 m5 m6 m7 m8 m9 m10 m11 m12 HS HT HW H0
    generalize (((w1.setCell ⟨w.heap.size, 0, none⟩ (.int .i64 p)).setCell ⟨w.heap.size, 1, none⟩ (.int .i64 q)).setCell ⟨w.heap.size, 2, none⟩ (.int .i64 r)).setCell ⟨w.heap.size, 3, none⟩ (.int .i64 s) = w2 at *
    obtain ⟨⟨x0, x1, x2, x3, xf⟩, hM, ⟨z0, z1, z2, z3, zf⟩, _⟩ := H2.out
    simp only [Nat.zero_add] at x0 x1 x2 x3 z0 z1 z2 z3
    obtain ⟨m0, m1, m2, m3, m4, m5, m6, m7, m8, m9, m10, m11, m12⟩ := hM.cells
    have xf0 := xf 0
    have xf1 := xf 1
    have xf2 := xf 2
    have xf3 := xf 3
    have zf0 := zf 0
    have zf1 := zf 1
    have zf2 := zf 2
    have zf3 := zf 3
    clear m0 m1 m2 m4 m6 m7 m8 m9 m10 m11 m12 hM xf zf
    simp only at m3 m5
    first
      | (go_upto_region 3 with fail
         go_still_tail 10, (by kernel_rfl)
         change wpList _ _ _ _ _ w2.drew
         have H3 := Lib.hid (And.intro (H2.out.1.of_block (w' := w2.drew) rfl) (And.intro (H2.out.2.2.1.of_block (w' := w2.drew) rfl) H2.out.2.2.2.drew))
         clear x0 x1 x2 x3 z0 z1 z2 z3 xf0 xf1 xf2 xf3 zf0 zf1 zf2 zf3 m3 m5 H2
         generalize w2.drew = w3 at *
         obtain ⟨⟨x0, x1, x2, x3, xf⟩, ⟨z0, z1, z2, z3, zf⟩, _⟩ := H3.out
         simp only [Nat.zero_add] at x0 x1 x2 x3 z0 z1 z2 z3
         have xf0 := xf 0
         have xf1 := xf 1
         have xf2 := xf 2
         have xf3 := xf 3
         have zf0 := zf 0
         have zf1 := zf 1
         have zf2 := zf 2
         have zf3 := zf 3
         clear xf zf
         go_wp2
         first
           | refine bodyPost_ret (v := .agg #[.int .i64 (max p n), .int .i64 q, .int .i64 r, .int .i64 s]) (by simp [results, Tryz.results58, go_sem, z0, z1, z2, z3]) rfl ⟨rfl, ?_⟩
           | refine bodyPost_ret (v := .agg #[.int .i64 p, .int .i64 (max q n), .int .i64 r, .int .i64 s]) (by simp [results, Tryz.results58, go_sem, z0, z1, z2, z3]) rfl ⟨rfl, ?_⟩
           | refine bodyPost_ret (v := .agg #[.int .i64 p, .int .i64 q, .int .i64 (max r n), .int .i64 s]) (by simp [results, Tryz.results58, go_sem, z0, z1, z2, z3]) rfl ⟨rfl, ?_⟩
           | refine bodyPost_ret (v := .agg #[.int .i64 p, .int .i64 q, .int .i64 r, .int .i64 (max s n)]) (by simp [results, Tryz.results58, go_sem, z0, z1, z2, z3]) rfl ⟨rfl, ?_⟩
         exact ((((H3.out.2.2.setCell (by simp) _).setCell (by simp; omega) _).setCell (by simp; omega) _).setCell (by simp; omega) _).setCell (by simp; omega) _)
      | (go_wp2
         refine bodyPost_ret (v := .agg #[.int .i64 p, .int .i64 q, .int .i64 r, .int .i64 s]) (by simp [results, Tryz.results58, go_sem, z0, z1, z2, z3]) rfl ⟨rfl, ?_⟩
         exact (((H2.out.2.2.2.setCell (by simp; omega) _).setCell (by simp; omega) _).setCell (by simp; omega) _).setCell (by simp; omega) _)
end Go.Proofs.YtofhijnfbilieaaGreat.Bk
namespace Go.Proofs.YtofhijnfbilieaaGreat.Bk
open Go.RowKit
open Ml (Mg may msgV)
open C (RecAt RecOwn)
set_option linter.unusedVariables false
set_option linter.unusedSimpArgs false
set_option maxRecDepth 20000

variable {dB sB mB n : Nat} {d : M.Dv}

theorem tab_start (w : World) : N4 ((w.alloc (.cells #[.int .i64 0, .int .i64 0, .int .i64 0, .int .i64 0] 35)).alloc (.cells #[.int .i64 0, .int .i64 0, .int .i64 0, .int .i64 0] 92)) w.heap.size 0 T4.zero ∧
    N4 ((w.alloc (.cells #[.int .i64 0, .int .i64 0, .int .i64 0, .int .i64 0] 35)).alloc (.cells #[.int .i64 0, .int .i64 0, .int .i64 0, .int .i64 0] 92)) (w.heap.size + 1) 0 T4.zero ∧
    Below w.heap.size w ((w.alloc (.cells #[.int .i64 0, .int .i64 0, .int .i64 0, .int .i64 0] 35)).alloc (.cells #[.int .i64 0, .int .i64 0, .int .i64 0, .int .i64 0] 92)) := by
  refine ⟨(n4_new w T4.zero 35).below ((Below.refl (w.heap.size + 1) _).alloc (by simp) _) (by omega), ?_, ((Below.refl _ _).alloc (Nat.le_refl _) _).alloc (by simp) _⟩
  have := n4_new (w.alloc (.cells #[.int .i64 0, .int .i64 0, .int .i64 0, .int .i64 0] 35)) T4.zero 92
  rw [show (w.alloc (.cells #[.int .i64 0, .int .i64 0, .int .i64 0, .int .i64 0] 35)).heap.size = w.heap.size + 1 by simp] at this
  exact this
theorem n4_put {w : World} {g : Nat} {x : T4} (h : N4 w g 0 x) (y : T4) : N4 ((((w.setCell ⟨g, 0, none⟩ (.int .i64 y.a)).setCell ⟨g, 1, none⟩ (.int .i64 y.b)).setCell ⟨g, 2, none⟩ (.int .i64 y.c)).setCell ⟨g, 3, none⟩ (.int .i64 y.d)) g 0 y := by
  have := (((h.set0 y.a).set1 y.b).set2 y.c).set3 y.d
  simpa using this
theorem n4_beside {w : World} {g j : Nat} {x : T4} (h : N4 w g 0 x) (hj : j ≠ g) (y : T4) : N4 ((((w.setCell ⟨j, 0, none⟩ (.int .i64 y.a)).setCell ⟨j, 1, none⟩ (.int .i64 y.b)).setCell ⟨j, 2, none⟩ (.int .i64 y.c)).setCell ⟨j, 3, none⟩ (.int .i64 y.d)) g 0 x :=
  (((h.other hj _).other hj _).other hj _).other hj _
theorem below4 {B g : Nat} {w0 w : World} (h : Below B w0 w) (hg : B ≤ g) (v0 v1 v2 v3 : Value) : Below B w0 ((((w.setCell ⟨g, 0, none⟩ v0).setCell ⟨g, 1, none⟩ v1).setCell ⟨g, 2, none⟩ v2).setCell ⟨g, 3, none⟩ v3) :=
  (((h.setCell hg _).setCell hg _).setCell hg _).setCell hg _

set_option maxHeartbeats 4000000 in
theorem table_any (w : World) {tB bl f : Nat} {K : Nat → Nat} {C : Cs} (h : ST w dB sB mB n d tB bl f K C) :
    Calls Tryz.prog 22 #[.pointer (some ⟨tB, 0, none⟩)] w fun e w' => e = .returned (t4V (tab C bl)) ∧ Below w.heap.size w w' := by
  have HS := Lib.hid h
  have HT := Lib.hid (tab_start w)
  have hbl := h.bl1
  have HQ : Hid (∀ w', Below w.heap.size w w' → w'.cell? ⟨tB, 33, none⟩ = some (.int .i64 (bl : Int)) ∧ ∀ k, k < bl → w'.cell? ⟨tB, 1 + k, none⟩ = some (.pointer (some ⟨K (k + 1), 0, none⟩))) := Lib.hid fun w' hb => ⟨(h.at_.below hb h.at_.lt).qn, fun k hk => (h.at_.below hb h.at_.lt).qb k hk⟩
  have HC : Hid (∀ w' k, Below w.heap.size w w' → k < bl → Calls Tryz.prog 45 #[.agg #[.pointer (some ⟨K (k + 1), 0, none⟩)]] w' fun e w'' => e = .returned (sdV (blk C k)) ∧ Below w'.heap.size w' w'') := Lib.hid fun w' k hb hk => stored_any w' ((h.cel (k + 1) (by omega)).below hb (h.cel (k + 1) (by omega)).lt) (h.tx (k + 1) (by omega))
  obtain ⟨q33, _⟩ := HQ.out _ HT.out.2.2
  clear h
  simp only [t4V]
  go_enter Tryz.func22, Tryz.ntmps22
  go_wp2
  clear q33
  go_loopw [9] (fun i wr => ∃ k : Nat, k ≤ bl ∧ i = .int .i64 (k : Int) ∧ N4 wr w.heap.size 0 T4.zero ∧ N4 wr (w.heap.size + 1) 0 (tab C k) ∧ Below w.heap.size w wr) (fun i _ => bl - (intOf i).toNat)
  case atStart => exact ⟨0, by omega, rfl, HT.out.1, HT.out.2.1, HT.out.2.2⟩
  case round =>
    obtain ⟨k, hk, rfl, hz, hx, hb⟩ := hrel
    have HZ := Lib.hid hz
    have HX := Lib.hid hx
    have HB := Lib.hid hb
    clear hz hx hb
    by_cases hkb : k = bl
    · subst hkb
      obtain ⟨x0, x1, x2, x3, xf⟩ := HX.out
      obtain ⟨z0, z1, z2, z3, zf⟩ := HZ.out
      simp only [T4.zero] at z0 z1 z2 z3
      simp only [Nat.zero_add] at x0 x1 x2 x3 z0 z1 z2 z3
      go_wp2
      refine bodyPost_ret (v := .agg #[.int .i64 (tab C k).a, .int .i64 (tab C k).b, .int .i64 (tab C k).c, .int .i64 (tab C k).d]) (by simp [results, Tryz.results22, go_sem, z0, z1, z2, z3]) rfl ⟨rfl, ?_⟩
      exact below4 HB.out (by omega) _ _ _ _
    · have hlt : (k : Int) < (bl : Int) := by omega
      have h0 : (0 : Int) ≤ (k : Int) := by omega
      have h32 : (k : Int) < 32 := by omega
      have q := (HQ.out _ HB.out).2 k (by omega)
      have HCk := Lib.hid (fun w' hb' => HC.out w' k hb' (by omega))
      have HWk := Lib.hid (fun w' => with_any w' (tab C k) (blk C k).t)
      have hst : tab C (k + 1) = (tab C k).up (blk C k).t := rfl
      generalize blk C k = s at *
      obtain ⟨ep, sq, dt, ta, tb, tc, td⟩ := s
      simp only at hst
      obtain ⟨Y, hY⟩ : ∃ Y, tab C (k + 1) = Y := ⟨_, rfl⟩
      rw [hY] at hst
      have HY := Lib.hid hY
      rw [← hst] at HWk
      clear hst hY
      generalize hX : tab C k = X at *
      clear hX
      simp only [sdV] at HCk
      simp only [t4V] at HWk
      obtain ⟨x0, x1, x2, x3, xf⟩ := HX.out
      simp only [Nat.zero_add] at x0 x1 x2 x3
      have hwz := Lib.hid HB.out.size
      have hkl : k < bl := by omega
      have fl : ∀ w, (Instr.field 115 (.agg #[.int .i64 ep, .int .i64 sq, .string dt, .int .i64 ta, .int .i64 tb, .int .i64 tc, .int .i64 td]) 2).run Tryz.prog w = .ok (.agg #[.int .i64 ta, .int .i64 tb, .int .i64 tc, .int .i64 td]) w := fun _ => by kernel_rfl
      go_upto_region 5 with fail
      go_region_law
        (first
          | (go_simp; go_at_call 45
             refine (HCk.out _ HB.out.drew).mono ?_
             rintro e w2 ⟨rfl, hb2⟩
             have B2 := Lib.hid (HB.out.drew.trans (Below.mono hb2 hwz.out))
             have X2 := Lib.hid ((HX.out.of_block (w' := wr.drew) rfl).below hb2 HX.out.lt)
             have Z2 := Lib.hid ((HZ.out.of_block (w' := wr.drew) rfl).below hb2 HZ.out.lt)
             obtain ⟨y0, y1, y2, y3, yf⟩ := X2.out
             simp only [Nat.zero_add] at y0 y1 y2 y3
             clear hb2)
          | (go_simp; go_at_call 48; refine (HWk.out _).mono ?_; rintro e w3 ⟨rfl, hb3⟩
             have B3 := Lib.hid (B2.out.trans (Below.mono hb3 B2.out.size))
             have X3 := Lib.hid (X2.out.below hb3 X2.out.lt)
             have Z3 := Lib.hid (Z2.out.below hb3 Z2.out.lt)
             obtain ⟨v0, v1, v2, v3, vf⟩ := X3.out
             simp only [Nat.zero_add] at v0 v1 v2 v3
             clear hb3))
      all_goals
        go_wp2
        go_roundw
        case rel => exact ⟨k + 1, by omega, by go_num, n4_beside Z3.out (by omega) Y, by rw [HY.out]; exact n4_put X3.out Y, below4 B3.out (Nat.le_succ _) _ _ _ _⟩
        case measure => simp [intOf]; omega

end Go.Proofs.YtofhijnfbilieaaGreat.Bk
namespace Go.Proofs.YtofhijnfbilieaaGreat.Bk
open Go.RowKit
open Ml (Mg may msgV)
open C (RecAt RecOwn)
set_option linter.unusedVariables false
set_option linter.unusedSimpArgs false
set_option maxRecDepth 20000

variable {dB sB mB n : Nat} {d : M.Dv}

theorem ret_msg1 {fn : Func} {j : Nat} (hres : fn.results = #[.cell j 37]) {R : Ending → World → Prop} {a : Act} {w : World} {g : Nat} {m : Mg} (h2 : a.tmps.getD j undef = .pointer (some ⟨g, 0, none⟩)) (hd : a.defers = []) (h : Ml.MB w g m)
    (hR : R (.returned (msgV m)) w) : bodyPost Tryz.prog fn R .ret a w := by
  obtain ⟨k0, k1, k2, k3, k4, k5, k6, k7, k8, k9, k10, k11, k12⟩ := h.cells
  simp only [Array.getD_eq_getD_getElem?] at h2
  refine bodyPost_ret_by ?_ hd hR
  simp [results, hres, h2, go_sem, k0, k1, k2, k3, k4, k5, k6, k7, k8, k9, k10, k11, k12, msgV, Ml.Mg.cells]

/-- an answer before it is known what it says -/
def ans0 (m : Mg) : Mg := ⟨if m.kind = 12 then 13 else 11, m.epoch, m.seq, m.n, m.block, -1, 0, 0, 0, 0, 0, ⟨#[]⟩, ⟨#[]⟩⟩
set_option maxHeartbeats 2000000 in
theorem answer_any (w : World) (m : Mg) : Calls Tryz.prog 30 #[msgV m] w fun e w' => e = .returned (msgV (ans0 m)) ∧ Below w.heap.size w w' := by
  have HM := Lib.hid (Bo.new2 w m.cells Ml.nil.cells 37 37)
  have HA := Lib.hid (fun (x : Mg) => Bo.new2 w m.cells x.cells 37 37)
  have HB := Lib.hid (fun (x : Mg) => ((Below.refl w.heap.size w).alloc (Nat.le_refl _) (.cells m.cells 37)).alloc (by simp) (.cells x.cells 37))
  obtain ⟨kind, epoch, seq, n, block, client, e, t0, t1, t2, t3, data, row⟩ := m
  by_cases hk : kind = 12
  case' pos =>
    subst hk
    have e0 : ans0 ⟨12, epoch, seq, n, block, client, e, t0, t1, t2, t3, data, row⟩ = ⟨13, epoch, seq, n, block, -1, 0, 0, 0, 0, 0, ⟨#[]⟩, ⟨#[]⟩⟩ := rfl
  case' neg =>
    have e0 : ans0 ⟨kind, epoch, seq, n, block, client, e, t0, t1, t2, t3, data, row⟩ = ⟨11, epoch, seq, n, block, -1, 0, 0, 0, 0, 0, ⟨#[]⟩, ⟨#[]⟩⟩ := by unfold ans0; rw [if_neg hk]
    have hkb : (kind == 12) = false := by rw [beq_eq_false_iff_ne]; exact hk
  all_goals
    rw [e0]
    simp only [Ml.nil, msgV, Ml.Mg.cells] at HM ⊢
    go_enter Tryz.func30, Tryz.ntmps30
    have zf := HM.out.fz
    go_wp2
    first
      | exact ret_msg1 (m := ⟨13, epoch, seq, n, block, -1, 0, 0, 0, 0, 0, ⟨#[]⟩, ⟨#[]⟩⟩) Tryz.results30 rfl rfl (HA.out ⟨13, epoch, seq, n, block, -1, 0, 0, 0, 0, 0, ⟨#[]⟩, ⟨#[]⟩⟩) ⟨rfl, HB.out ⟨13, epoch, seq, n, block, -1, 0, 0, 0, 0, 0, ⟨#[]⟩, ⟨#[]⟩⟩⟩
      | exact ret_msg1 (m := ⟨11, epoch, seq, n, block, -1, 0, 0, 0, 0, 0, ⟨#[]⟩, ⟨#[]⟩⟩) Tryz.results30 rfl rfl (HA.out ⟨11, epoch, seq, n, block, -1, 0, 0, 0, 0, 0, ⟨#[]⟩, ⟨#[]⟩⟩) ⟨rfl, HB.out ⟨11, epoch, seq, n, block, -1, 0, 0, 0, 0, 0, ⟨#[]⟩, ⟨#[]⟩⟩⟩

/-- a record as a cell's text -/
theorem text_any (w : World) (r : C.M.Rc) (aN : Option Addr) (nN cN : Nat) (aT : Option Addr) (nT cT : Nat) (h : RecAt w r aN nN cN aT nT cT) (hm : C.M.May r) (hf : C.M.Fits r) :
    Calls Tryz.prog 55 #[.agg #[.int .i64 r.kind, .slice aN nN cN, .slice aT nT cT]] w fun e w' => e = .returned (.string (C.str (C.M.enc r))) ∧ Below w.heap.size w w' := by
  have HE := Lib.hid (C.encode_yes (w.alloc (.cells #[.int .i64 r.kind, .slice aN nN cN, .slice aT nT cT] 99)) r aN nN cN aT nT cT (h.below ((Below.refl w.heap.size w).alloc (Nat.le_refl _) _) (Nat.le_refl _)) hm hf)
  have HB := Lib.hid ((Below.refl w.heap.size w).alloc (Nat.le_refl _) (.cells #[.int .i64 r.kind, .slice aN nN cN, .slice aT nT cT] 99))
  generalize r.kind = kind at *
  generalize C.M.enc r = l at *
  clear h hm hf
  go_enter Tryz.func55, Tryz.ntmps55
  go_wp2_with (go_at_call 77; with_reducible refine HE.out.mono ?_; rintro e w1 ⟨aE, cE, rfl, ho, hb⟩
               have hc := C.run_string_bytes (C.own_row ho).1
               have HB3 := Lib.hid (HB.out.trans (Below.mono hb HB.out.size))
               clear hb ho)
  go_ret
  exact ⟨rfl, HB3.out⟩

theorem bx4 {w w1 : World} {a b c e : Value} {t : TypeId} (hb : Below (w.alloc (.cells #[a, b, c, e] t)).heap.size (w.alloc (.cells #[a, b, c, e] t)) w1) : Bo w1 w.heap.size #[a, b, c, e] t ∧ Below w.heap.size w w1 ∧ w.heap.size + 1 ≤ w1.heap.size := by
  have hs := hb.size
  rw [show (w.alloc (.cells #[a, b, c, e] t)).heap.size = w.heap.size + 1 by simp] at hb hs
  exact ⟨(Bo.new w _ _).below hb (by omega), ((Below.refl _ _).alloc (Nat.le_refl _) _).trans (hb.mono (by omega)), hs⟩

set_option maxHeartbeats 2000000 in
theorem load_any (w : World) {tB bl f : Nat} {K : Nat → Nat} {C : Cs} (h : ST w dB sB mB n d tB bl f K C) (b : Int) :
    Calls Tryz.prog 32 #[.pointer (some ⟨tB, 0, none⟩), .int .i64 b] w fun e w' => e = .returned (.tuple #[.string (loaS bl C b), t4V (loaT bl C b), .int .i64 (loaE bl b)]) ∧ Below w.heap.size w w' := by
  have HX := Lib.hid (bx4 (Below.refl (w.alloc (.cells #[.int .i64 0, .int .i64 0, .int .i64 0, .int .i64 0] 92)).heap.size (w.alloc (.cells #[.int .i64 0, .int .i64 0, .int .i64 0, .int .i64 0] 92))))
  have HH := Lib.hid (has_any _ (h.below HX.out.2.1).at_ b)
  by_cases hno : b ≠ -1 ∧ isB bl b = false
  · have e1 : loaS bl C b = ⟨#[]⟩ := by unfold loaS getV; rw [if_neg (by rw [hno.2]; simp)]
    have e2 : loaT bl C b = T4.zero := by unfold loaT; rw [if_pos hno]
    have e3 : loaE bl b = 2 := by unfold loaE; rw [if_pos hno]
    rw [e1, e2, e3]
    rw [hno.2] at HH
    have hb1 : (b != -1) = true := by rw [bne_iff_ne]; exact hno.1
    have z0 := HX.out.1.cell 0
    have z1 := HX.out.1.cell 1
    have z2 := HX.out.1.cell 2
    have z3 := HX.out.1.cell 3
    have zf := HX.out.1.fz
    clear h hno e1 e2 e3
    go_enter Tryz.func32, Tryz.ntmps32
    go_wp2_with (go_at_call 44; with_reducible refine HH.out.mono ?_; rintro e w1 ⟨rfl, rfl⟩)
    refine bodyPost_ret (v := .tuple #[.string ⟨#[]⟩, t4V T4.zero, .int .i64 2]) (by simp [results, Tryz.results32, go_sem, t4V, T4.zero, z0, z1, z2, z3]) rfl ⟨rfl, ?_⟩
    exact HX.out.2.1
  · have e2 : loaT bl C b = tab C bl := by unfold loaT; rw [if_neg hno]
    have e3 : loaE bl b = 0 := by unfold loaE; rw [if_neg hno]
    have e1 : loaS bl C b = (getV bl C b).2.2 := rfl
    rw [e1, e2, e3]
    have hg : b = -1 ∨ (b ≠ -1 ∧ isB bl b = true) := by
      by_cases hb1 : b = -1
      · exact .inl hb1
      · exact .inr ⟨hb1, by cases hi : isB bl b with
          | false => exact absurd ⟨hb1, hi⟩ hno
          | true => rfl⟩
    have HS1 := Lib.hid (h.below HX.out.2.1)
    have HG := Lib.hid (bget_any _ HS1.out b)
    have HT := Lib.hid (fun w' (hb : Below w.heap.size w w') => table_any w' (h.below hb))
    generalize getV bl C b = gv at *
    obtain ⟨g1, g2, g3⟩ := gv
    generalize tab C bl = X at *
    simp only [verV] at HG
    simp only [t4V] at HT ⊢
    clear h hno e1 e2 e3 HS1
    rcases hg with rfl | ⟨hb1, hb2⟩
    case' inr =>
      rw [hb2] at HH
      have hb1' : (b != -1) = true := by rw [bne_iff_ne]; exact hb1
      clear hb1 hb2
    all_goals
      go_enter Tryz.func32, Tryz.ntmps32
      go_wp2_with (first
        | (go_at_call 44; with_reducible refine HH.out.mono ?_; rintro e w1 ⟨rfl, rfl⟩)
        | (go_at_call 19; refine HG.out.mono ?_; rintro e w2 ⟨rfl, hb2⟩
           have X2 := Lib.hid (bx4 hb2)
           have B2 := Lib.hid (X2.out.2.1.alloc X2.out.2.1.size (.cells #[.int .i64 g1, .int .i64 g2] 52))
           have O2 := Lib.hid (X2.out.1.below ((Below.refl w2.heap.size w2).alloc (Nat.le_refl _) (.cells #[.int .i64 g1, .int .i64 g2] 52)) (by have := X2.out.2.2; omega))
           clear hb2)
        | (go_at_call 22; refine (HT.out _ B2.out).mono ?_; rintro e w3 ⟨rfl, hb3⟩
           have B3 := Lib.hid (B2.out.trans (Below.mono hb3 B2.out.size))
           have O3 := Lib.hid (O2.out.below hb3 O2.out.lt)
           have z0 := O3.out.cell 0
           have z1 := O3.out.cell 1
           have z2 := O3.out.cell 2
           have z3 := O3.out.cell 3
           have zf := O3.out.fz
           clear hb3))
      refine bodyPost_ret (v := .tuple #[.string g3, .agg #[.int .i64 X.a, .int .i64 X.b, .int .i64 X.c, .int .i64 X.d], .int .i64 0]) (by simp [results, Tryz.results32, go_sem, z0, z1, z2, z3]) rfl ⟨rfl, ?_⟩
      exact below4 B3.out (Nat.le_refl _) _ _ _ _
end Go.Proofs.YtofhijnfbilieaaGreat.Bk
namespace Go.Proofs.YtofhijnfbilieaaGreat.Bk
open Go.RowKit
open Ml (Mg may msgV)
open C (RecAt RecOwn)
set_option linter.unusedVariables false
set_option linter.unusedSimpArgs false
set_option maxRecDepth 20000

variable {dB sB mB n : Nat} {d : M.Dv}

theorem crow_nil (w : World) : C.Row w none 0 0 [] := ⟨rfl, Nat.le_refl _, by simp [maxLen], .inl rfl⟩
theorem tok_at (w : World) (ep : Int) : RecAt (w.alloc (.cells #[.int .i64 ep] 2)) (tokRec ep) (some ⟨w.heap.size, 0, none⟩) 1 1 none 0 0 :=
  ⟨(C.own_row (C.own_lit 2 w w.heap.size (C.i64s [ep]) (Nat.le_refl _) (by simp [C.i64s]))).1, crow_nil _⟩
theorem ST.drew {w : World} {tB bl f : Nat} {K : Nat → Nat} {C : Cs} (h : ST w dB sB mB n d tB bl f K C) : ST w.drew dB sB mB n d tB bl f K C := h.below (Below.refl _ _).drew

set_option maxHeartbeats 4000000 in
theorem admit_any (w : World) {tB bl f : Nat} {K : Nat → Nat} {C : Cs} (h : ST w dB sB mB n d tB bl f K C) (ep : Int) (hep : 0 ≤ ep ∧ ep ≤ big) :
    Calls Tryz.prog 31 #[.pointer (some ⟨tB, 0, none⟩), .int .i64 ep] w fun e w' => e = .returned (.int .i64 (admE n f d C ep)) ∧ ST w' dB sB mB n (admD n f d C ep) tB bl f K (admC n f d C ep) ∧ But (ours dB sB mB bl K) w w' := by
  have HT := Lib.hid (token_any w h.at_ (h.cel 0 (Nat.zero_le _)) (h.tx 0 (Nat.zero_le _)))
  have ht : tok (C 0).text = token C := rfl
  rw [ht] at HT
  have HS := Lib.hid h
  by_cases h1 : ep < token C
  · have e1 : admE n f d C ep = 24 := by unfold admE; rw [if_pos h1]
    have e2 : admD n f d C ep = d := by unfold admD; rw [if_pos (by omega)]
    have e3 : admC n f d C ep = C := by unfold admC; rw [if_pos (by omega)]
    rw [e1, e2, e3]
    generalize token C = tk at *
    clear h e1 e2 e3 ht
    go_enter Tryz.func31, Tryz.ntmps31
    go_wp2_with (go_at_call 21; with_reducible refine HT.out.mono ?_; rintro e w1 ⟨rfl, hb1⟩; have HB := Lib.hid hb1; clear hb1)
    go_ret
    exact ⟨rfl, HS.out.below HB.out, (But.of_below HB.out).mono (by simp)⟩
  · by_cases h2 : ep = token C
    · have e1 : admE n f d C ep = 0 := by unfold admE; rw [if_neg h1, if_pos h2]
      have e2 : admD n f d C ep = d := by unfold admD; rw [if_pos (by omega)]
      have e3 : admC n f d C ep = C := by unfold admC; rw [if_pos (by omega)]
      rw [e1, e2, e3]
      rw [← h2] at HT
      clear h e1 e2 e3 ht h1 h2
      go_enter Tryz.func31, Tryz.ntmps31
      go_wp2_with (go_at_call 21; with_reducible refine HT.out.mono ?_; rintro e w1 ⟨rfl, hb1⟩; have HB := Lib.hid hb1; clear hb1)
      go_ret
      exact ⟨rfl, HS.out.below HB.out, (But.of_below HB.out).mono (by simp)⟩
    · have e1 : admE n f d C ep = putE n f d C 0 (tokT ep) := by unfold admE; rw [if_neg h1, if_neg h2]
      have e2 : admD n f d C ep = putD n f d C 0 (tokT ep) := by unfold admD; rw [if_neg (by omega)]
      have e3 : admC n f d C ep = putC n f d C 0 (tokT ep) := by unfold admC; rw [if_neg (by omega)]
      rw [e1, e2, e3]
      have hb2 : (ep == token C) = false := by rw [beq_eq_false_iff_ne]; exact h2
      have HTx := Lib.hid (fun w' => text_any w' (tokRec ep) (some ⟨w'.heap.size, 0, none⟩) 1 1 none 0 0)
      have HM := Lib.hid (tok_may hep)
      have HX : Hid (∀ w' : World, Calls Tryz.prog 55 #[.agg #[.int .i64 31, .slice (some ⟨w'.heap.size, 0, none⟩) 1 1, .slice none 0 0]] (w'.alloc (.cells #[.int .i64 ep] 2)) fun e w'' => e = .returned (.string (tokT ep)) ∧ Below (w'.heap.size + 1) (w'.alloc (.cells #[.int .i64 ep] 2)) w'') := Lib.hid fun w' => by
        have := text_any _ _ _ _ _ _ _ _ (tok_at w' ep) (tok_may hep).1 (tok_may hep).2
        rw [show (w'.alloc (.cells #[.int .i64 ep] 2)).heap.size = w'.heap.size + 1 by simp] at this
        exact this
      have HP : Hid (∀ w', ST w' dB sB mB n d tB bl f K C → Calls Tryz.prog 54 #[.pointer (some ⟨K 0, 0, none⟩), .string (tokT ep)] w' fun e w'' => e = .returned (.int .i64 (putE n f d C 0 (tokT ep))) ∧ ST w'' dB sB mB n (putD n f d C 0 (tokT ep)) tB bl f K (putC n f d C 0 (tokT ep)) ∧ But (ours dB sB mB bl K) w' w'') := Lib.hid fun w' h => put_st w' h 0 (Nat.zero_le _) (tokT ep) (tokT_small ep)
      generalize putE n f d C 0 (tokT ep) = E at *
      generalize putD n f d C 0 (tokT ep) = D at *
      generalize putC n f d C 0 (tokT ep) = C2 at *
      generalize tokT ep = t at *
      generalize token C = tk at *
      clear h e1 e2 e3 ht h2 hep HTx HM
      go_enter Tryz.func31, Tryz.ntmps31
      go_upto_region 6 with (go_at_call 21; with_reducible refine HT.out.mono ?_; rintro e w1 ⟨rfl, hb1⟩; have HB := Lib.hid hb1; clear hb1)
      have HS1 := Lib.hid (HS.out.below HB.out)
      have HSd := Lib.hid HS1.out.drew
      have HBd := Lib.hid HB.out.drew
      have q0 := HS1.out.at_.q0
      go_region_held3 (fun w' => w'.cell? ⟨tB, 0, none⟩ = some (.pointer (some ⟨K 0, 0, none⟩)))
        (first
          | exact q0
          | exact (HSd.out.below ((Below.refl _ _).alloc (Nat.le_refl _) _)).at_.q0
          | exact S2.out.at_.q0
          | exact S3.out.at_.q0)
        (first
          | (go_at_call 55; refine (HX.out w1.drew).mono ?_; rintro e w2 ⟨rfl, hb2⟩
             have A2 : Below w1.heap.size w1.drew w2 := ((Below.refl w1.heap.size w1.drew).alloc (Nat.le_refl _) (.cells #[.int .i64 ep] 2)).trans (hb2.mono (Nat.le_succ _))
             have B2 := Lib.hid (HBd.out.trans (A2.mono HB.out.size))
             have S2 := Lib.hid (HSd.out.below A2)
             clear hb2 A2)
          | (go_at_call 54; refine (HP.out _ S2.out).mono ?_; rintro e w3 ⟨rfl, hs3, hb3⟩
             have S3 := Lib.hid hs3
             have B3 := Lib.hid (((But.of_below B2.out).mono (by simp)).trans hb3)
             clear hs3 hb3))
      go_wp2
      go_ret
      exact ⟨rfl, S3.out, B3.out⟩
end Go.Proofs.YtofhijnfbilieaaGreat.Bk
namespace Go.Proofs.YtofhijnfbilieaaGreat.Bk
open Go.RowKit
open Ml (Mg may msgV)
open C (RecAt RecOwn Own i64s strs)
set_option linter.unusedVariables false
set_option linter.unusedSimpArgs false
set_option maxRecDepth 20000

variable {dB sB mB n : Nat} {d : M.Dv}

theorem st_at {w : World} {s : Sd} {a : Option Addr} {cap : Nat} (h : C.Row w a 6 cap (i64s [s.ep, s.sq, s.t.a, s.t.b, s.t.c, s.t.d])) : RecAt (w.alloc (.cells #[.string s.data] 9)) (stRec s) a 6 cap (some ⟨w.heap.size, 0, none⟩) 1 1 :=
  ⟨C.row_below h ((Below.refl _ _).alloc (Nat.le_refl _) _) (Nat.le_refl _), (C.own_row (C.own_lit 9 w w.heap.size (strs [s.data]) (Nat.le_refl _) (by simp [strs]))).1⟩

theorem keep_boxes (w : World) (k : Nat) (cs : Array Value) : Bo ((w.alloc (.cells #[.pointer (some ⟨k, 0, none⟩)] 76)).alloc (.cells cs 115)) w.heap.size #[.pointer (some ⟨k, 0, none⟩)] 76 ∧
    Bo ((w.alloc (.cells #[.pointer (some ⟨k, 0, none⟩)] 76)).alloc (.cells cs 115)) (w.heap.size + 1) cs 115 ∧
    Below w.heap.size w ((w.alloc (.cells #[.pointer (some ⟨k, 0, none⟩)] 76)).alloc (.cells cs 115)) :=
  ⟨(Bo.new w _ _).below ((Below.refl (w.heap.size + 1) _).alloc (by simp) _) (by omega), Bo.new2 w _ _ _ _, ((Below.refl _ _).alloc (Nat.le_refl _) _).alloc (by simp) _⟩

set_option maxHeartbeats 4000000 in
theorem keep_any (w : World) {tB bl f : Nat} {K : Nat → Nat} {Q : Cs} (h : ST w dB sB mB n d tB bl f K Q) (j : Nat) (hj : j < bl) (s : Sd) (hs : s.Ok) :
    Calls Tryz.prog 57 #[.agg #[.pointer (some ⟨K (j + 1), 0, none⟩)], sdV s] w fun e w' => e = .returned (.int .i64 (putE n f d Q (j + 1) (stT s))) ∧ ST w' dB sB mB n (putD n f d Q (j + 1) (stT s)) tB bl f K (putC n f d Q (j + 1) (stT s)) ∧ But (ours dB sB mB bl K) w w' := by
  have HX : Hid (∀ (w' : World) (a : Option Addr) (cap : Nat), C.Row w' a 6 cap (i64s [s.ep, s.sq, s.t.a, s.t.b, s.t.c, s.t.d]) → Calls Tryz.prog 55 #[.agg #[.int .i64 30, .slice a 6 cap, .slice (some ⟨w'.heap.size, 0, none⟩) 1 1]] (w'.alloc (.cells #[.string s.data] 9)) fun e w'' => e = .returned (.string (stT s)) ∧ Below (w'.heap.size + 1) (w'.alloc (.cells #[.string s.data] 9)) w'') := Lib.hid fun w' a cap hr => by
    have := text_any _ _ _ _ _ _ _ _ (st_at hr) (st_may hs).1 (st_may hs).2
    rw [show (w'.alloc (.cells #[.string s.data] 9)).heap.size = w'.heap.size + 1 by simp] at this
    exact this
  have HP : Hid (∀ w', ST w' dB sB mB n d tB bl f K Q → Calls Tryz.prog 54 #[.pointer (some ⟨K (j + 1), 0, none⟩), .string (stT s)] w' fun e w'' => e = .returned (.int .i64 (putE n f d Q (j + 1) (stT s))) ∧ ST w'' dB sB mB n (putD n f d Q (j + 1) (stT s)) tB bl f K (putC n f d Q (j + 1) (stT s)) ∧ But (ours dB sB mB bl K) w' w'') := Lib.hid fun w' h => put_st w' h (j + 1) (by omega) (stT s) (stT_small hs.2.2.1)
  have HS := Lib.hid h
  have hlt := HS.out.ours_lt
  have hkl := (h.cel (j + 1) (by omega)).lt
  generalize putE n f d Q (j + 1) (stT s) = E at *
  generalize putD n f d Q (j + 1) (stT s) = D at *
  generalize putC n f d Q (j + 1) (stT s) = C2 at *
  generalize stT s = tx at *
  generalize hKb : K (j + 1) = kb at *
  have HI : Hid (∀ b, w.heap.size ≤ b → b ∉ ours dB sB mB bl K) := Lib.hid fun b hb hx => by have := hlt.2 b hx; omega
  clear hlt
  obtain ⟨ep, sq, dt, ta, tb, tc, td⟩ := s
  have HBx := Lib.hid (keep_boxes w kb #[.int .i64 ep, .int .i64 sq, .string dt, .int .i64 ta, .int .i64 tb, .int .i64 tc, .int .i64 td])
  simp only [sdV] at HX ⊢
  clear h hs hj
  go_enter Tryz.func57, Tryz.ntmps57
  go_upto_region 1 with fail
  generalize (w.alloc (.cells #[.pointer (some ⟨kb, 0, none⟩)] 76)).alloc (.cells #[.int .i64 ep, .int .i64 sq, .string dt, .int .i64 ta, .int .i64 tb, .int .i64 tc, .int .i64 td] 115) = W0 at *
  have HB0 := Lib.hid HBx.out.2.2
  have hW0 := HBx.out.2.1.lt
  have c0 := HBx.out.2.1.cell 0
  have c1 := HBx.out.2.1.cell 1
  have c2 := HBx.out.2.1.cell 2
  have c3 := HBx.out.2.1.cell 3
  have c4 := HBx.out.2.1.cell 4
  have c5 := HBx.out.2.1.cell 5
  have c6 := HBx.out.2.1.cell 6
  simp only [List.getElem?_toArray, List.getElem?_cons_zero, List.getElem?_cons_succ] at c0 c1 c2 c3 c4 c5 c6
  have HR4 := Lib.hid (Ml.row4 (w := W0) (b := w.heap.size + 1) (off := 3) hW0 c3 c4 c5 c6)
  go_region_held3 (fun w' => w'.cell? ⟨w.heap.size + 1, 0, none⟩ = some (.int .i64 ep) ∧ w'.cell? ⟨w.heap.size + 1, 1, none⟩ = some (.int .i64 sq))
    (first
      | exact ⟨c0, c1⟩
      | exact ⟨(((Below.refl W0.drew.heap.size W0.drew).alloc (Nat.le_refl _) (.cells #[.int .i64 ep, .int .i64 sq] 2)).cell (p := ⟨w.heap.size + 1, 0, none⟩) hW0).trans c0, (((Below.refl W0.drew.heap.size W0.drew).alloc (Nat.le_refl _) (.cells #[.int .i64 ep, .int .i64 sq] 2)).cell (p := ⟨w.heap.size + 1, 1, none⟩) hW0).trans c1⟩
      | exact ⟨(B4.out.cell (p := ⟨w.heap.size + 1, 0, none⟩) hW0).trans c0, (B4.out.cell (p := ⟨w.heap.size + 1, 1, none⟩) hW0).trans c1⟩)
    (first
      | (refine Ml.step_append_i64 _ (by rfl) (.tmp 12) (.tmp 14) (by rfl) W0.heap.size (some ⟨W0.heap.size, 0, none⟩) 2 2 [ep, sq] (by rfl) (C.own_lit 2 W0.drew W0.heap.size (i64s [ep, sq]) (Nat.le_refl _) (by simp [i64s])) (some ⟨w.heap.size + 1, 3, none⟩) 4 4 [ta, tb, tc, td] (by rfl) (C.row_below HR4.out (((Below.refl W0.heap.size W0).drew).alloc (Nat.le_refl _) (.cells #[.int .i64 ep, .int .i64 sq] 2)) (Nat.le_refl _)) (by omega) (by simp) ?_
         intro a4 cap4 w4 o4 b4 g4
         have B4 := Lib.hid ((((Below.refl W0.heap.size W0).drew).alloc (Nat.le_refl _) (.cells #[.int .i64 ep, .int .i64 sq] 2)).trans b4)
         have O4 := Lib.hid o4
         clear o4 b4 g4))
  go_upto_region 2 with fail
  have HB4 := Lib.hid (HB0.out.trans (B4.out.mono HB0.out.size))
  have S4 := Lib.hid (HS.out.below HB4.out)
  have HBo4 := Lib.hid (HBx.out.1.below B4.out HBx.out.1.lt)
  have HBo5 := Lib.hid (HBx.out.2.1.below B4.out hW0)
  have hz4 : Hid (w.heap.size + 1 < w4.heap.size) := Lib.hid (Nat.lt_of_lt_of_le hW0 B4.out.size)
  have HRow := Lib.hid (C.own_row O4.out).1
  clear c0 c1 c2 c3 c4 c5 c6 HR4 HBx HB0 O4 B4
  have k0 := HBo4.out.cell 0
  have s2 := HBo5.out.cell 2
  simp only [List.getElem?_toArray, List.getElem?_cons_zero, List.getElem?_cons_succ] at k0 s2
  have HK : Hid (∀ w', Below w4.heap.size w4 w' → w'.cell? ⟨w.heap.size, 0, none⟩ = some (.pointer (some ⟨kb, 0, none⟩)) ∧ w'.cell? ⟨w.heap.size + 1, 2, none⟩ = some (.string dt)) := Lib.hid fun w' hb => ⟨(hb.cell (p := ⟨w.heap.size, 0, none⟩) HBo4.out.lt).trans k0, (hb.cell (p := ⟨w.heap.size + 1, 2, none⟩) HBo5.out.lt).trans s2⟩
  go_region_held3 (fun w' => w'.cell? ⟨w.heap.size, 0, none⟩ = some (.pointer (some ⟨kb, 0, none⟩)) ∧ w'.cell? ⟨w.heap.size + 1, 2, none⟩ = some (.string dt))
    (first
      | exact ⟨k0, s2⟩
      | exact HK.out _ (((Below.refl w4.heap.size w4).drew).alloc (Nat.le_refl _) _)
      | exact HK.out _ B6.out
      | exact ⟨(HBo4.out.below B6.out HBo4.out.lt |>.but hb7 (HI.out _ (Nat.le_refl _))).cell 0, (HBo5.out.below B6.out HBo5.out.lt |>.but hb7 (HI.out _ (Nat.le_succ _))).cell 2⟩)
    (first
      | (go_at_call 55; refine (HX.out w4.drew _ _ HRow.out).mono ?_; rintro e w6 ⟨rfl, hb6⟩
         have B6 : Hid (Below w4.heap.size w4 w6) := Lib.hid ((((Below.refl w4.heap.size w4).drew).alloc (Nat.le_refl _) (.cells #[.string dt] 9)).trans (hb6.mono (Nat.le_succ _)))
         have S6 := Lib.hid (S4.out.below B6.out)
         clear hb6)
      | (go_at_call 54; refine (HP.out _ S6.out).mono ?_; rintro e w7 ⟨rfl, hs7, hb7⟩
         have S7 := Lib.hid hs7
         have B7 : Hid (But (ours dB sB mB bl K) w w7) := Lib.hid (((But.of_below (HB4.out.trans (B6.out.mono HB4.out.size))).mono (by simp)).trans hb7)
         clear hs7))
  go_wp2
  go_ret
  exact ⟨rfl, S7.out, B7.out⟩
end Go.Proofs.YtofhijnfbilieaaGreat.Bk
namespace Go.Proofs.YtofhijnfbilieaaGreat.Bk
open Go.RowKit
open Ml (Mg may msgV)
set_option linter.unusedVariables false
set_option linter.unusedSimpArgs false
set_option maxRecDepth 20000

variable {dB sB mB n : Nat} {d : M.Dv}

theorem newS_ok {bl : Nat} {C : Cs} {m : Mg} (hm : may m = true) (h8 : m.data.size = 8) : (newS bl C m).Ok := by
  obtain ⟨_, h1, h2, h3, _, _, _, h4, h5, h6, h7, _⟩ := (Ml.may_iff m).1 hm
  have hb : Ml.big = big := rfl
  rw [hb] at h1 h2 h3 h4 h5 h6 h7
  exact ⟨h1, h2, h8, T4.bump_ok (T4.up_ok (tab_ok C bl) ⟨h4, h5, h6, h7⟩) h3.2⟩

set_option maxHeartbeats 2000000 in
theorem store_range (w : World) {tB bl f : Nat} {K : Nat → Nat} {C : Cs} (h : ST w dB sB mB n d tB bl f K C) (m : Mg) (hb : isB bl m.block = false) :
    Calls Tryz.prog 33 #[.pointer (some ⟨tB, 0, none⟩), msgV m] w fun e w' => e = .returned (.int .i64 2) ∧ Below w.heap.size w w' := by
  have HB := Lib.hid ((Below.refl w.heap.size w).alloc (Nat.le_refl _) (.cells m.cells 37))
  have HH := Lib.hid (has_any _ (h.below HB.out).at_ m.block)
  rw [hb] at HH
  obtain ⟨kind, epoch, seq, nn, block, client, e, t0, t1, t2, t3, data, row⟩ := m
  simp only [msgV, Ml.Mg.cells] at HB HH ⊢
  clear h hb
  go_enter Tryz.func33, Tryz.ntmps33
  go_wp2_with (go_at_call 44; with_reducible refine HH.out.mono ?_; rintro e w1 ⟨rfl, rfl⟩)
  go_ret
  exact ⟨rfl, HB.out⟩
set_option maxHeartbeats 2000000 in
theorem store_size (w : World) {tB bl f : Nat} {K : Nat → Nat} {C : Cs} (h : ST w dB sB mB n d tB bl f K C) (m : Mg) (hb : isB bl m.block = true) (h8 : m.data.size ≠ 8) :
    Calls Tryz.prog 33 #[.pointer (some ⟨tB, 0, none⟩), msgV m] w fun e w' => e = .returned (.int .i64 3) ∧ Below w.heap.size w w' := by
  have HB := Lib.hid ((Below.refl w.heap.size w).alloc (Nat.le_refl _) (.cells m.cells 37))
  have HH := Lib.hid (has_any _ (h.below HB.out).at_ m.block)
  rw [hb] at HH
  obtain ⟨kind, epoch, seq, nn, block, client, e, t0, t1, t2, t3, data, row⟩ := m
  simp only [msgV, Ml.Mg.cells] at HB HH h8 ⊢
  have h8' : ((data.size : Int) != 8) = true := by rw [bne_iff_ne]; omega
  clear h hb h8
  go_enter Tryz.func33, Tryz.ntmps33
  go_wp2_with (go_at_call 44; with_reducible refine HH.out.mono ?_; rintro e w1 ⟨rfl, rfl⟩)
  go_ret
  exact ⟨rfl, HB.out⟩

set_option maxHeartbeats 4000000 in
theorem store_new (w : World) {tB bl f : Nat} {K : Nat → Nat} {Q : Cs} (h : ST w dB sB mB n d tB bl f K Q) (m : Mg) (hm : may m = true) (k : Nat) (hk : k < bl) (hbk : m.block = (k : Int)) (h8 : m.data.size = 8) :
    Calls Tryz.prog 33 #[.pointer (some ⟨tB, 0, none⟩), msgV m] w fun e w' =>
      e = .returned (.int .i64 (if above m.epoch m.seq (blk Q k).ep (blk Q k).sq = true then putE n f d Q (k + 1) (stT (newS bl Q m)) else 0)) ∧
      ST w' dB sB mB n (if above m.epoch m.seq (blk Q k).ep (blk Q k).sq = true then putD n f d Q (k + 1) (stT (newS bl Q m)) else d) tB bl f K (if above m.epoch m.seq (blk Q k).ep (blk Q k).sq = true then putC n f d Q (k + 1) (stT (newS bl Q m)) else Q) ∧ But (ours dB sB mB bl K) w w' := by
  have hbl := h.bl1
  have HB := Lib.hid ((Below.refl w.heap.size w).alloc (Nat.le_refl _) (.cells m.cells 37))
  have HM := Lib.hid (Bo.new w m.cells 37)
  have HS := Lib.hid (h.below HB.out)
  have HH := Lib.hid (has_any _ HS.out.at_ m.block)
  rw [show isB bl m.block = true by unfold isB; rw [hbk]; simp; omega] at HH
  have HSt : Hid (∀ w', ST w' dB sB mB n d tB bl f K Q → Calls Tryz.prog 45 #[.agg #[.pointer (some ⟨K (k + 1), 0, none⟩)]] w' fun e w'' => e = .returned (sdV (blk Q k)) ∧ Below w'.heap.size w' w'') := Lib.hid fun w' h => stored_any w' (h.cel (k + 1) (by omega)) (h.tx (k + 1) (by omega))
  have HTb : Hid (∀ w', ST w' dB sB mB n d tB bl f K Q → Calls Tryz.prog 22 #[.pointer (some ⟨tB, 0, none⟩)] w' fun e w'' => e = .returned (t4V (tab Q bl)) ∧ Below w'.heap.size w' w'') := Lib.hid fun w' h => table_any w' h
  have HAb := fun w' => Lib.hid (above_any w' m.epoch m.seq (blk Q k).ep (blk Q k).sq)
  have HBe := fun w' => Lib.hid (behind_any w' (tab Q bl) m ((Ml.may_iff m).1 hm).2.2.2.2.2.1)
  have HKe : Hid (∀ w', ST w' dB sB mB n d tB bl f K Q → Calls Tryz.prog 57 #[.agg #[.pointer (some ⟨K (k + 1), 0, none⟩)], sdV (newS bl Q m)] w' fun e w'' => e = .returned (.int .i64 (putE n f d Q (k + 1) (stT (newS bl Q m)))) ∧ ST w'' dB sB mB n (putD n f d Q (k + 1) (stT (newS bl Q m))) tB bl f K (putC n f d Q (k + 1) (stT (newS bl Q m))) ∧ But (ours dB sB mB bl K) w' w'') := Lib.hid fun w' h => keep_any w' h k hk _ (newS_ok hm h8)
  have hns : newS bl Q m = ⟨m.epoch, m.seq, m.data, ((tab Q bl).up (Mg.t4 m)).bump m.client m.n⟩ := rfl
  have HI : Hid (∀ b, w.heap.size ≤ b → b ∉ ours dB sB mB bl K) := Lib.hid fun b hb hx => by have := h.ours_lt.2 b hx; omega
  generalize putE n f d Q (k + 1) (stT (newS bl Q m)) = E at *
  generalize putD n f d Q (k + 1) (stT (newS bl Q m)) = D at *
  generalize putC n f d Q (k + 1) (stT (newS bl Q m)) = Q2 at *
  rw [hns] at HKe
  generalize ((tab Q bl).up (Mg.t4 m)).bump m.client m.n = Y at *
  have HQ : Hid (∀ w', ST w' dB sB mB n d tB bl f K Q → w'.cell? ⟨tB, 1 + k, none⟩ = some (.pointer (some ⟨K (k + 1), 0, none⟩))) := Lib.hid fun w' h => h.at_.qb k hk
  generalize tab Q bl = X at *
  generalize blk Q k = s at *
  generalize K (k + 1) = kb at *
  obtain ⟨ep, sq, dt, ta, tb, tc, td⟩ := s
  obtain ⟨kind, epoch, seq, nn, block, client, e, t0, t1, t2, t3, data, row⟩ := m
  simp only at hbk
  subst hbk
  simp only [msgV, Ml.Mg.cells, sdV, t4V] at *
  have h8' : ((data.size : Int) != 8) = false := by rw [bne_eq_false_iff_eq]; omega
  have g0 : (0 : Int) ≤ (k : Int) := by omega
  have g1 : (k : Int) < 32 := by omega
  clear h hm h8 hns hk hbl
  generalize above epoch seq ep sq = ab at *
  go_enter Tryz.func33, Tryz.ntmps33
  go_upto_region 5 with (go_at_call 44; with_reducible refine HH.out.mono ?_; rintro e w1 ⟨rfl, rfl⟩)
  generalize w.alloc (.cells #[.int .i64 kind, .int .i64 epoch, .int .i64 seq, .int .i64 nn, .int .i64 (k : Int), .int .i64 client, .int .i64 e, .int .i64 t0, .int .i64 t1, .int .i64 t2, .int .i64 t3, .string data, .string row] 37) = W0 at *
  clear HH
  have hW0 := HM.out.lt
  have q4 := HM.out.cell 4
  simp only [List.getElem?_toArray, List.getElem?_cons_zero, List.getElem?_cons_succ] at q4
  have qb := HQ.out _ HS.out
  have HK5 : Hid (∀ w', Below W0.heap.size W0 w' → w'.cell? ⟨w.heap.size, 4, none⟩ = some (.int .i64 (k : Int)) ∧ w'.cell? ⟨tB, 1 + k, none⟩ = some (.pointer (some ⟨kb, 0, none⟩))) := Lib.hid fun w' hb => ⟨(hb.cell (p := ⟨w.heap.size, 4, none⟩) hW0).trans q4, HQ.out _ (HS.out.below hb)⟩
  go_region_held3 (fun w' => w'.cell? ⟨w.heap.size, 4, none⟩ = some (.int .i64 (k : Int)) ∧ w'.cell? ⟨tB, 1 + k, none⟩ = some (.pointer (some ⟨kb, 0, none⟩)))
    (first
      | exact ⟨q4, qb⟩
      | exact HK5.out _ (by repeat (first | with_reducible exact Below.refl _ _ | refine Below.drew ?_ | refine Below.alloc ?_ (by simp) _ | refine Below.setCell ?_ (by simp) _)))
    (first
      | fail)
  have HM5 := Lib.hid (HM.out.below (((Below.refl W0.heap.size W0).alloc (Nat.le_refl _) (.cells #[.pointer (some ⟨kb, 0, none⟩)] 76)).drew) hW0)
  have HB5 : Hid (Bo (W0.alloc (.cells #[.pointer (some ⟨kb, 0, none⟩)] 76)).drew W0.heap.size #[.pointer (some ⟨kb, 0, none⟩)] 76) := Lib.hid (Bo.new W0 _ _)
  have HC5 := Lib.hid (HB.out.trans ((((Below.refl W0.heap.size W0).alloc (Nat.le_refl _) (.cells #[.pointer (some ⟨kb, 0, none⟩)] 76)).drew).mono HB.out.size))
  have HS5 := Lib.hid (HS.out.below (((Below.refl W0.heap.size W0).alloc (Nat.le_refl _) (.cells #[.pointer (some ⟨kb, 0, none⟩)] 76)).drew))
  have HG5 : Hid (w.heap.size ≤ W0.heap.size) := Lib.hid HB.out.size
  generalize hg : W0.heap.size = G5 at *
  generalize (W0.alloc (.cells #[.pointer (some ⟨kb, 0, none⟩)] 76)).drew = W5 at *
  clear hg HK5 q4 qb HM HB HS g0 g1
  have q1 := HM5.out.cell 1
  have q2 := HM5.out.cell 2
  simp only [List.getElem?_toArray, List.getElem?_cons_zero, List.getElem?_cons_succ] at q1 q2
  go_upto_region 7 with fail
  have HN : Hid (Below W5.heap.size W5 (W5.alloc (.cells #[.int .i64 epoch, .int .i64 seq] 52))) := Lib.hid ((Below.refl W5.heap.size W5).alloc (Nat.le_refl _) _)
  have HV := Lib.hid (Bo.new W5 #[.int .i64 epoch, .int .i64 seq] 52)
  have HM6 := Lib.hid (HM5.out.below HN.out HM5.out.lt)
  have HB6 := Lib.hid (HB5.out.below HN.out HB5.out.lt)
  have HC6 := Lib.hid (HC5.out.trans (HN.out.mono HC5.out.size))
  have HS6 := Lib.hid (HS5.out.below HN.out)
  have HG6 : Hid (w.heap.size ≤ W5.heap.size) := Lib.hid HC5.out.size
  clear HM5 HB5 HC5 HS5 HN q1 q2
  generalize hg : W5.heap.size = G6 at *
  generalize W5.alloc (.cells #[.int .i64 epoch, .int .i64 seq] 52) = W6 at *
  clear hg
  have v0 := HV.out.cell 0
  have v1 := HV.out.cell 1
  have b0 := HB6.out.cell 0
  simp only [List.getElem?_toArray, List.getElem?_cons_zero, List.getElem?_cons_succ] at v0 v1 b0
  have HK7 : Hid (∀ w', Below W6.heap.size W6 w' → w'.cell? ⟨G6, 0, none⟩ = some (.int .i64 epoch) ∧ w'.cell? ⟨G6, 1, none⟩ = some (.int .i64 seq) ∧ w'.cell? ⟨G5, 0, none⟩ = some (.pointer (some ⟨kb, 0, none⟩))) := Lib.hid fun w' hb => ⟨(hb.cell (p := ⟨G6, 0, none⟩) HV.out.lt).trans v0, (hb.cell (p := ⟨G6, 1, none⟩) HV.out.lt).trans v1, (hb.cell (p := ⟨G5, 0, none⟩) HB6.out.lt).trans b0⟩
  have fl : ∀ w, (Instr.field 115 (.agg #[.int .i64 ep, .int .i64 sq, .string dt, .int .i64 ta, .int .i64 tb, .int .i64 tc, .int .i64 td]) 0).run Tryz.prog w = .ok (.agg #[.int .i64 ep, .int .i64 sq]) w := fun _ => by kernel_rfl
  go_region_held3 (fun w' => w'.cell? ⟨G6, 0, none⟩ = some (.int .i64 epoch) ∧ w'.cell? ⟨G6, 1, none⟩ = some (.int .i64 seq) ∧ w'.cell? ⟨G5, 0, none⟩ = some (.pointer (some ⟨kb, 0, none⟩)))
    (first
      | exact ⟨v0, v1, b0⟩
      | exact HK7.out _ B7.out
      | exact HK7.out _ B8.out)
    (first
      | (go_at_call 45; refine (HSt.out W6.drew HS6.out.drew).mono ?_; rintro e w7 ⟨rfl, hb7⟩
         have B7 : Hid (Below W6.heap.size W6 w7) := Lib.hid ((Below.refl W6.heap.size W6).drew.trans hb7)
         clear hb7)
      | (go_at_call 56; refine (HAb _).out.mono ?_; rintro e w8 ⟨rfl, hb8⟩
         have B8 : Hid (Below W6.heap.size W6 w8) := Lib.hid (B7.out.trans (hb8.mono B7.out.size))
         clear hb8))
  cases ab with
  | false =>
    go_wp2
    go_ret
    exact ⟨rfl, HS6.out.below B8.out, (But.of_below (HC6.out.trans (B8.out.mono HC6.out.size))).mono (by simp)⟩
  | true =>
    go_upto_region 9 with fail
    have HS8 := Lib.hid (HS6.out.below B8.out)
    have HM8 := Lib.hid (HM6.out.below B8.out HM6.out.lt)
    have HB8 := Lib.hid (HB6.out.below B8.out HB6.out.lt)
    have HV8 := Lib.hid (HV.out.below B8.out HV.out.lt)
    have HC8 := Lib.hid (HC6.out.trans (B8.out.mono HC6.out.size))
    clear v0 v1 b0 HK7 fl HM6 HB6 HV HC6 HS6 B7 B8 HSt HAb
    have v0 := HV8.out.cell 0
    have v1 := HV8.out.cell 1
    have b0 := HB8.out.cell 0
    have m0 := HM8.out.cell 0
    have m1 := HM8.out.cell 1
    have m2 := HM8.out.cell 2
    have m3 := HM8.out.cell 3
    have m4 := HM8.out.cell 4
    have m5 := HM8.out.cell 5
    have m6 := HM8.out.cell 6
    have m7 := HM8.out.cell 7
    have m8 := HM8.out.cell 8
    have m9 := HM8.out.cell 9
    have m10 := HM8.out.cell 10
    have m11 := HM8.out.cell 11
    have m12 := HM8.out.cell 12
    simp only [List.getElem?_toArray, List.getElem?_cons_zero, List.getElem?_cons_succ] at v0 v1 b0 m0 m1 m2 m3 m4 m5 m6 m7 m8 m9 m10 m11 m12
    have HK9 : Hid (∀ w' : World, w'.heap[G6]? = w8.heap[G6]? → w'.heap[G5]? = w8.heap[G5]? → w'.heap[w.heap.size]? = w8.heap[w.heap.size]? →
        w'.cell? ⟨G6, 0, none⟩ = some (.int .i64 epoch) ∧ w'.cell? ⟨G6, 1, none⟩ = some (.int .i64 seq) ∧ w'.cell? ⟨G5, 0, none⟩ = some (.pointer (some ⟨kb, 0, none⟩)) ∧
        w'.cell? ⟨w.heap.size, 0, none⟩ = some (.int .i64 kind) ∧ w'.cell? ⟨w.heap.size, 1, none⟩ = some (.int .i64 epoch) ∧ w'.cell? ⟨w.heap.size, 2, none⟩ = some (.int .i64 seq) ∧ w'.cell? ⟨w.heap.size, 3, none⟩ = some (.int .i64 nn) ∧ w'.cell? ⟨w.heap.size, 4, none⟩ = some (.int .i64 (k : Int)) ∧ w'.cell? ⟨w.heap.size, 5, none⟩ = some (.int .i64 client) ∧ w'.cell? ⟨w.heap.size, 6, none⟩ = some (.int .i64 e) ∧ w'.cell? ⟨w.heap.size, 7, none⟩ = some (.int .i64 t0) ∧ w'.cell? ⟨w.heap.size, 8, none⟩ = some (.int .i64 t1) ∧ w'.cell? ⟨w.heap.size, 9, none⟩ = some (.int .i64 t2) ∧ w'.cell? ⟨w.heap.size, 10, none⟩ = some (.int .i64 t3) ∧ w'.cell? ⟨w.heap.size, 11, none⟩ = some (.string data) ∧ w'.cell? ⟨w.heap.size, 12, none⟩ = some (.string row)) := Lib.hid fun w' h1 h2 h3 => by
      refine ⟨?_, ?_, ?_, ?_, ?_, ?_, ?_, ?_, ?_, ?_, ?_, ?_, ?_, ?_, ?_, ?_⟩
      all_goals first
        | exact (World.cell?_of_block (w := w8) (a := ⟨G6, _, none⟩) h1).trans (by assumption)
        | exact (World.cell?_of_block (w := w8) (a := ⟨G5, _, none⟩) h2).trans (by assumption)
        | exact (World.cell?_of_block (w := w8) (a := ⟨w.heap.size, _, none⟩) h3).trans (by assumption)
    go_region_held3 (fun w' => w'.cell? ⟨G6, 0, none⟩ = some (.int .i64 epoch) ∧ w'.cell? ⟨G6, 1, none⟩ = some (.int .i64 seq) ∧ w'.cell? ⟨G5, 0, none⟩ = some (.pointer (some ⟨kb, 0, none⟩)) ∧
        w'.cell? ⟨w.heap.size, 0, none⟩ = some (.int .i64 kind) ∧ w'.cell? ⟨w.heap.size, 1, none⟩ = some (.int .i64 epoch) ∧ w'.cell? ⟨w.heap.size, 2, none⟩ = some (.int .i64 seq) ∧ w'.cell? ⟨w.heap.size, 3, none⟩ = some (.int .i64 nn) ∧ w'.cell? ⟨w.heap.size, 4, none⟩ = some (.int .i64 (k : Int)) ∧ w'.cell? ⟨w.heap.size, 5, none⟩ = some (.int .i64 client) ∧ w'.cell? ⟨w.heap.size, 6, none⟩ = some (.int .i64 e) ∧ w'.cell? ⟨w.heap.size, 7, none⟩ = some (.int .i64 t0) ∧ w'.cell? ⟨w.heap.size, 8, none⟩ = some (.int .i64 t1) ∧ w'.cell? ⟨w.heap.size, 9, none⟩ = some (.int .i64 t2) ∧ w'.cell? ⟨w.heap.size, 10, none⟩ = some (.int .i64 t3) ∧ w'.cell? ⟨w.heap.size, 11, none⟩ = some (.string data) ∧ w'.cell? ⟨w.heap.size, 12, none⟩ = some (.string row))
      (first
        | exact HK9.out w8 rfl rfl rfl
        | exact HK9.out w8.drew rfl rfl rfl
        | exact HK9.out w9 (B9.out.block _ HV8.out.lt) (B9.out.block _ HB8.out.lt) (B9.out.block _ HM8.out.lt)
        | exact HK9.out w10 (B10.out.block _ HV8.out.lt) (B10.out.block _ HB8.out.lt) (B10.out.block _ HM8.out.lt)
        | exact HK9.out w11 ((B11.out.block _ (Nat.lt_of_lt_of_le HV8.out.lt B10.out.size) (HI.out _ HG6.out)).trans (B10.out.block _ HV8.out.lt)) ((B11.out.block _ (Nat.lt_of_lt_of_le HB8.out.lt B10.out.size) (HI.out _ HG5.out)).trans (B10.out.block _ HB8.out.lt)) ((B11.out.block _ (Nat.lt_of_lt_of_le HM8.out.lt B10.out.size) (HI.out _ (Nat.le_refl _))).trans (B10.out.block _ HM8.out.lt)))
      (first
        | (go_at_call 22; refine (HTb.out w8.drew HS8.out.drew).mono ?_; rintro e9 w9 ⟨rfl, hb9⟩
           have B9 : Hid (Below w8.heap.size w8 w9) := Lib.hid ((Below.refl w8.heap.size w8).drew.trans hb9)
           clear hb9)
        | (go_at_call 58; refine (HBe _).out.mono ?_; rintro e10 w10 ⟨rfl, hb10⟩
           have B10 : Hid (Below w8.heap.size w8 w10) := Lib.hid (B9.out.trans (hb10.mono B9.out.size))
           have S10 := Lib.hid (HS8.out.below B10.out)
           clear hb10)
        | (go_at_call 57; refine (HKe.out _ S10.out).mono ?_; rintro e11 w11 ⟨rfl, hs11, hb11⟩
           have B11 := Lib.hid hb11
           have S11 := Lib.hid hs11
           clear hs11 hb11))
    go_wp2
    go_ret
    exact ⟨rfl, S11.out, ((But.of_below (HC8.out.trans (B10.out.mono HC8.out.size))).mono (by simp)).trans B11.out⟩

theorem store_any (w : World) {tB bl f : Nat} {K : Nat → Nat} {Q : Cs} (h : ST w dB sB mB n d tB bl f K Q) (m : Mg) (hm : may m = true) :
    Calls Tryz.prog 33 #[.pointer (some ⟨tB, 0, none⟩), msgV m] w fun e w' =>
      e = .returned (.int .i64 (stoE n f bl d Q m)) ∧ ST w' dB sB mB n (stoD n f bl d Q m) tB bl f K (stoC n f bl d Q m) ∧ But (ours dB sB mB bl K) w w' := by
  cases hb : isB bl m.block with
  | false =>
    have hf : fresh bl Q m = false := by unfold fresh; rw [hb]; rfl
    have e1 : stoE n f bl d Q m = 2 := by unfold stoE; rw [if_pos hb]
    have e2 : stoD n f bl d Q m = d := by unfold stoD; rw [hf]; rfl
    have e3 : stoC n f bl d Q m = Q := by unfold stoC; rw [hf]; rfl
    rw [e1, e2, e3]
    refine (store_range w h m hb).mono ?_
    rintro e w' ⟨rfl, hb'⟩
    exact ⟨rfl, h.below hb', (But.of_below hb').mono (by simp)⟩
  | true =>
    have hb' := hb
    unfold isB at hb'
    simp at hb'
    obtain ⟨k, hk⟩ := Int.eq_ofNat_of_zero_le hb'.1
    have hkl : k < bl := by omega
    by_cases h8 : m.data.size = 8
    · have hf : fresh bl Q m = above m.epoch m.seq (blk Q k).ep (blk Q k).sq := by unfold fresh; rw [hb, hk]; simp [h8]
      have e1 : stoE n f bl d Q m = if above m.epoch m.seq (blk Q k).ep (blk Q k).sq = true then putE n f d Q (k + 1) (stT (newS bl Q m)) else 0 := by
        unfold stoE; rw [hf, if_neg (by simp [hb]), if_neg (by simp [h8]), hk]; rfl
      have e2 : stoD n f bl d Q m = if above m.epoch m.seq (blk Q k).ep (blk Q k).sq = true then putD n f d Q (k + 1) (stT (newS bl Q m)) else d := by
        unfold stoD; rw [hf, hk]; rfl
      have e3 : stoC n f bl d Q m = if above m.epoch m.seq (blk Q k).ep (blk Q k).sq = true then putC n f d Q (k + 1) (stT (newS bl Q m)) else Q := by
        unfold stoC; rw [hf, hk]; rfl
      rw [e1, e2, e3]
      exact store_new w h m hm k hkl hk h8
    · have hf : fresh bl Q m = false := by unfold fresh; simp [h8]
      have e1 : stoE n f bl d Q m = 3 := by unfold stoE; rw [if_neg (by simp [hb]), if_pos h8]
      have e2 : stoD n f bl d Q m = d := by unfold stoD; rw [hf]; rfl
      have e3 : stoC n f bl d Q m = Q := by unfold stoC; rw [hf]; rfl
      rw [e1, e2, e3]
      refine (store_size w h m hb h8).mono ?_
      rintro e w' ⟨rfl, hb'⟩
      exact ⟨rfl, h.below hb', (But.of_below hb').mono (by simp)⟩
end Go.Proofs.YtofhijnfbilieaaGreat.Bk
