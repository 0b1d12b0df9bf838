/-
  CacheReset: the walk.
-/
import Derived.Test.YtmcalgnpinolmaaGreatQG
import Derived.Deep.DeepCutAuto
namespace Go.Proofs.YtmcalgnpinolmaaGreat
open Go.RowKit Go.Maps
set_option linter.unusedVariables false
set_option linter.unusedSimpArgs false
set_option maxRecDepth 20000
namespace Q
variable {w0 : World} {B : Bk} {G : Gm} {V V' : Vi} {K K' : Int}

theorem Rq.reset {w : World} (h : Rq w0 w B G V K) {q : Nat} (hq : B.qB = q) (hK : K ≤ 600000000) (ep sq : Int) (a : Option Addr) (n cap : Nat) (l : List Int) (hr : C.Row w a n cap (C.i64s l)) :
    Calls Tryz.prog 30 #[.pointer (some ⟨q, 0, none⟩), .agg #[.int .i64 ep, .int .i64 sq], .slice a n cap] w fun e w' => e = .returned (.int .i64 (keepE ep sq l)) ∧ ∃ r, Rq w0 w' (B.row r) G (resetVi V ep sq l) (K + 2002) ∧ But B.l w w' := by
  subst hq
  refine (reset_cs w h.cs hK ep sq a n cap l hr).mono ?_
  rintro e w' ⟨rfl, ha⟩
  obtain ⟨r, h1, _, h3⟩ := h.after ha
  exact ⟨rfl, r, h1, h3⟩
theorem Rq.note {w : World} (h : Rq w0 w B G V K) {q : Nat} (hq : B.qB = q) (hK : K ≤ 600000000) (ep sq : Int) (a : Option Addr) (n cap : Nat) (l : List Int) (hr : C.Row w a n cap (C.i64s l)) :
    Calls Tryz.prog 32 #[.pointer (some ⟨q, 0, none⟩), .agg #[.int .i64 ep, .int .i64 sq], .slice a n cap] w fun e w' => e = .returned (.int .i64 (keepE ep sq l)) ∧ ∃ r, Rq w0 w' (B.row r) G (noteVi V ep sq l) (K + 2002) ∧ But B.l w w' := by
  subst hq
  refine (note_cs w h.cs hK ep sq a n cap l hr).mono ?_
  rintro e w' ⟨rfl, ha⟩
  obtain ⟨r, h1, _, h3⟩ := h.after ha
  exact ⟨rfl, r, h1, h3⟩

theorem keepOk0 : keepOk 0 0 [0, 0, 0, 0] := ⟨⟨by decide, by decide⟩, ⟨by decide, by decide⟩, rfl, fun x hx => by simp at hx; subst hx; exact ⟨by decide, by decide⟩⟩
theorem note_zero (hk : MayK V.k) : keepE 0 0 [0, 0, 0, 0] = 0 ∧ noteVi V 0 0 [0, 0, 0, 0] = V := by
  refine ⟨by unfold keepE; rw [if_pos keepOk0], ?_⟩
  unfold noteVi
  rw [if_pos keepOk0]
  obtain ⟨e, ⟨ep, sq, t0, t1, t2, t3⟩⟩ := V
  obtain ⟨h1, h2, h3, h4, h5, h6⟩ := hk
  unfold In0 at h1 h2 h3 h4 h5 h6
  simp only at h1 h2 h3 h4 h5 h6
  unfold noteK keepK
  simp only [List.getD_cons_zero, List.getD_cons_succ]
  have e0 : max 0 t0 = t0 := by omega
  have e1 : max 0 t1 = t1 := by omega
  have e2 : max 0 t2 = t2 := by omega
  have e3 : max 0 t3 = t3 := by omega
  rw [e0, e1, e2, e3]
  by_cases ho : 0 < ord ep sq 0 0
  · simp only [if_pos ho]
  · have : ep = 0 ∧ sq = 0 := by
      unfold ord at ho
      rw [if_neg (by omega)] at ho
      by_cases hp : 0 < ep
      · rw [if_pos hp] at ho; omega
      · rw [if_neg hp, if_neg (by omega)] at ho
        by_cases hq : 0 < sq
        · rw [if_pos hq] at ho; omega
        · omega
    obtain ⟨rfl, rfl⟩ := this
    simp only [ite_self]

/-- a row of zeros, made just now -/
theorem zeros4 (w : World) : C.Row (w.alloc (.cells #[.int .i64 0, .int .i64 0, .int .i64 0, .int .i64 0] 2)) (some ⟨w.heap.size, 0, none⟩) 4 4 (C.i64s [0, 0, 0, 0]) := by
  refine ⟨rfl, by omega, by simp [maxLen], .inr ⟨w.heap.size, 0, rfl, by simp, fun i hi => ?_⟩⟩
  rw [Nat.zero_add]
  rcases (by omega : i = 0 ∨ i = 1 ∨ i = 2 ∨ i = 3) with rfl | rfl | rfl | rfl <;> (rw [World.cell?_alloc_mark]; rfl)
theorem i64_info4 : (Tryz.prog.info? 2).map (fun i => (i.zero, i.size, i.bytes)) = some (some (.int .i64 0), 1, 8) := by kernel_rfl
theorem make4 (w : World) : (Instr.makeSlice 38 (.int .i64 4) (.int .i64 4)).run Tryz.prog w = .ok (.slice (some ⟨w.heap.size, 0, none⟩) 4 4) (w.alloc (.cells #[.int .i64 0, .int .i64 0, .int .i64 0, .int .i64 0] 2)) := by
  obtain ⟨i0, hi0, hz0, hz1, hz2⟩ := info_parts i64_info4
  have hm := run_makeSlice (P := Tryz.prog) w 38 2 i0 _ Tryz.underlying38 hi0 hz0 .i64 .i64 4 4 (by omega) (by omega) (by rw [hz1]; decide) (by rw [hz2]; decide) (by omega)
  rw [hm, hz1]
  have e : madeCells (Value.int .i64 0).cells (Int.toNat 4 * 1) = #[.int .i64 0, .int .i64 0, .int .i64 0, .int .i64 0] := by
    apply Array.ext_getElem?
    intro j
    by_cases hj : j < 4
    · rcases (by omega : j = 0 ∨ j = 1 ∨ j = 2 ∨ j = 3) with rfl | rfl | rfl | rfl <;> simp [madeCells, Value.cells]
    · rw [Array.getElem?_eq_none (by rw [size_madeCells]; simpa using hj), Array.getElem?_eq_none (by simpa using hj)]
  rw [e]
  rfl
theorem seven_at {w : World} {P : Nat} {sl : Value} {ep sq t0 t1 t2 t3 : Int} (h : TAt w P sl ep sq t0 t1 t2 t3) {w' : World} {q : List Nat} (hb : But q w w') (hn : P ∉ q) : TAt w' P sl ep sq t0 t1 t2 t3 := by
  have hl := World.block_lt_of_cell? w _ h.c0
  exact ⟨by rw [hb.cell hl hn]; exact h.c0, by rw [hb.cell hl hn]; exact h.c1, by rw [hb.cell hl hn]; exact h.c2, by rw [hb.cell hl hn]; exact h.c3, by rw [hb.cell hl hn]; exact h.c4, by rw [hb.cell hl hn]; exact h.c5, by rw [hb.cell hl hn]; exact h.c6, fun o => by
    have := hb.block P hl hn
    have h2 := h.fz o
    unfold World.frozen? at h2 ⊢
    simp only [this]
    exact h2⟩

set_option maxHeartbeats 8000000 in
theorem reset_any (x0 : Int) (a : Option Addr) (n c : Nat) (l : List Ac) (ep sq : Int) (a3 : Option Addr) (n3 c3 : Nat) (l3 : List Int) (w : World) (f0 : (Lit.int .u8 x0).wf = true) (hA : Acts9 w a n c l) (hl3 : C.Row w a3 n3 c3 (C.i64s l3)) :
    Calls Tryz.prog 9 #[.int .u8 x0, .slice a n c, .agg #[.int .i64 ep, .int .i64 sq], .slice a3 n3 c3] w fun e w' => e = .returned (.bool true) ∧ Below w.heap.size w w' := by
  have HW := Lib.hid hA
  have HL3 := Lib.hid hl3
  have hnI : (n : Int) ≤ 9223372036854775807 := by have := hA.2.1; have := hA.2.2.1; unfold maxLen at this; omega
  clear hA hl3
  have hmk := make4
  have hbv := (Below.refl w.heap.size w).alloc (Nat.le_refl _) (.cells #[.int .i64 ep, .int .i64 sq] 30)
  have HBv := Lib.hid hbv
  have HVc : Hid (∀ w', Below (w.alloc (.cells #[.int .i64 ep, .int .i64 sq] 30)).heap.size (w.alloc (.cells #[.int .i64 ep, .int .i64 sq] 30)) w' → w'.cell? ⟨w.heap.size, 0, none⟩ = some (.int .i64 ep) ∧ w'.cell? ⟨w.heap.size, 1, none⟩ = some (.int .i64 sq)) := Lib.hid (fun w' hb => by
    constructor
    · rw [hb.cell (by simp), World.cell?_alloc_mark]; rfl
    · rw [hb.cell (by simp), World.cell?_alloc_mark]; rfl)
  have HA := Lib.hid (awake_any (w.alloc (.cells #[.int .i64 ep, .int .i64 sq] 30)))
  have HLO := Lib.hid (fun w1 hb => law_open (w.alloc (.cells #[.int .i64 ep, .int .i64 sq] 30)) w1 hb x0 f0)
  clear hbv f0
  by_cases h100 : 100 < n3
  · have h100I : (100 : Int) < (n3 : Int) := by omega
    clear h100 hmk
    go_enter Tryz.func9, Tryz.ntmps9
    go_wp2_with (first
      | (go_at_call 11; with_reducible refine HA.out.mono ?_; rintro e w1 ⟨rfl, hb1⟩; have HLO1 := Lib.hid (HLO.out w1 hb1); clear hb1)
      | (go_at_call 12; with_reducible refine HLO1.out.mono ?_; rintro e w2 ⟨B, N, h8, h37, hx, rfl, hR, _, _⟩
         have HBe := Lib.hid hR.be
         clear h8 h37 hx hR))
    go_ret
    exact ⟨rfl, HBv.out.trans (HBe.out.mono HBv.out.size)⟩
  have h100I : ¬ (100 : Int) < (n3 : Int) := by omega
  clear h100
  go_enter Tryz.func9, Tryz.ntmps9
  go_wp2_with (first
    | (go_at_call 11; with_reducible refine HA.out.mono ?_; rintro e w1 ⟨rfl, hb1⟩; have HLO1 := Lib.hid (HLO.out w1 hb1); clear hb1)
    | (go_at_call 12; with_reducible refine HLO1.out.mono ?_; rintro e w2 ⟨B, N, h8, h37, hx, rfl, hR, _, _⟩
       obtain ⟨G, hG⟩ : ∃ G : Gm, G = ⟨N + 2, 2, N, 0, 1, 32⟩ := ⟨_, rfl⟩
       rw [← hG] at hR
       have HR := Lib.hid hR
       clear h8 h37 hx hR hG))
  clear HLO HLO1 HA
  go_loopw [12] (fun i wr => ∃ (k : Nat) (B1 : Bk) (V : Vi), k ≤ n ∧ k ≤ 60 ∧ i = .int .i64 k ∧ B1.qB = B.qB ∧ Rq (w.alloc (.cells #[.int .i64 ep, .int .i64 sq] 30)) wr B1 G V (2 + 2002 * (k : Int))) (fun i _ => 60 - (RowKit.intOf i).toNat)
  case atStart => exact ⟨0, B, _, by omega, by omega, rfl, rfl, HR.out.mono (by simp)⟩
  case round =>
    obtain ⟨k, B1, V, hkn, hk6, rfl, hq, hRq⟩ := hrel
    have HR1 := Lib.hid hRq
    have HQ := Lib.hid hq
    have HK : Hid (2 + 2002 * (k : Int) ≤ 200000000) := Lib.hid (by omega)
    have hk0 : (0 : Int) ≤ (k : Int) := by omega
    have HBw : Hid (Below w.heap.size w wr) := Lib.hid (HBv.out.trans (hRq.be.mono HBv.out.size))
    have hways : (¬ (k : Int) < (n : Int) ∨ ((k : Int) < (n : Int) ∧ ¬ (k : Int) < 60)) ∨ ((k : Int) < (n : Int) ∧ (k : Int) < 60) := by omega
    clear hRq hq HR
    rcases hways with hend | ⟨hlt, hlt6⟩
    · clear hkn hk6
      by_cases hok : keepOk ep sq l3
      · have hl4 := hok.2.2.1
        obtain ⟨t0, t1, t2, t3, rfl⟩ : ∃ t0 t1 t2 t3, l3 = [t0, t1, t2, t3] := by
          match l3, hl4 with
          | [t0, t1, t2, t3], _ => exact ⟨t0, t1, t2, t3, rfl⟩
        obtain rfl : 4 = n3 := by have := HL3.out.1; simpa [C.i64s] using this
        obtain ⟨g3, o3, rfl, hg3, h30, h31, h32, h33⟩ : ∃ g o, a3 = some ⟨g, o, none⟩ ∧ g < w.heap.size ∧ w.cell? ⟨g, o, none⟩ = some (.int .i64 t0) ∧ w.cell? ⟨g, o + 1, none⟩ = some (.int .i64 t1) ∧ w.cell? ⟨g, o + 2, none⟩ = some (.int .i64 t2) ∧ w.cell? ⟨g, o + 3, none⟩ = some (.int .i64 t3) := by
          rcases HL3.out.2.2.2 with h | ⟨g, o, ha, hlt, hc⟩
          · simp [C.i64s] at h
          · exact ⟨g, o, ha, hlt, hc 0 (by omega), hc 1 (by omega), hc 2 (by omega), hc 3 (by omega)⟩
        have HG3 : Hid (∀ w', Below w.heap.size w w' → w'.cell? ⟨g3, o3, none⟩ = some (.int .i64 t0) ∧ w'.cell? ⟨g3, o3 + 1, none⟩ = some (.int .i64 t1) ∧ w'.cell? ⟨g3, o3 + 2, none⟩ = some (.int .i64 t2) ∧ w'.cell? ⟨g3, o3 + 3, none⟩ = some (.int .i64 t3)) := Lib.hid (fun w' hb => ⟨by rw [hb.cell hg3]; exact h30, by rw [hb.cell hg3]; exact h31, by rw [hb.cell hg3]; exact h32, by rw [hb.cell hg3]; exact h33⟩)
        have HE : Hid (keepE ep sq [t0, t1, t2, t3] = 0 ∧ resetVi V ep sq [t0, t1, t2, t3] = ⟨V.e, ⟨ep, sq, t0, t1, t2, t3⟩⟩) := Lib.hid ⟨by unfold keepE; rw [if_pos hok], by unfold resetVi; rw [if_pos hok]; rfl⟩
        have HMk : Hid (MayK ⟨ep, sq, t0, t1, t2, t3⟩) := Lib.hid (keep_may hok)
        have HT := Lib.hid (HR1.out.told HQ.out)
        clear hok hl4 hg3 h30 h31 h32 h33
        rcases hend with hend | ⟨hend, hend6⟩
        all_goals
          go_wp2_with (first
            | (go_at_call 13; with_reducible refine HT.out.mono ?_; rintro e w3 ⟨aT, cT, rfl, ho, hb3⟩
               have hb4 := hb3.trans ((Below.refl w3.heap.size w3).alloc (Nat.le_refl _) (.cells #[.slice aT (num G.nb V.e) cT, .int .i64 V.k.ep, .int .i64 V.k.sq, .int .i64 V.k.t0, .int .i64 V.k.t1, .int .i64 V.k.t2, .int .i64 V.k.t3] 33) |>.mono hb3.size)
               have HR4 := Lib.hid (HR1.out.below hb4)
               have HB4 := Lib.hid hb4
               have HP4 : Hid (wr.heap.size ≤ w3.heap.size) := Lib.hid hb3.size
               have HT4 : Hid (TAt (w3.alloc (.cells #[.slice aT (num G.nb V.e) cT, .int .i64 V.k.ep, .int .i64 V.k.sq, .int .i64 V.k.t0, .int .i64 V.k.t1, .int .i64 V.k.t2, .int .i64 V.k.t3] 33)) w3.heap.size (.slice aT (num G.nb V.e) cT) V.k.ep V.k.sq V.k.t0 V.k.t1 V.k.t2 V.k.t3) := Lib.hid (TAt.of (heap_alloc_new w3 _))
               have HO4 := Lib.hid (ho.but (But.of_below ((Below.refl w3.heap.size w3).alloc (Nat.le_refl _) (.cells #[.slice aT (num G.nb V.e) cT, .int .i64 V.k.ep, .int .i64 V.k.sq, .int .i64 V.k.t0, .int .i64 V.k.t1, .int .i64 V.k.t2, .int .i64 V.k.t3] 33))) (by simp))
               obtain ⟨v0, v1⟩ := HVc.out _ HR4.out.be
               have hrs := HR4.out.reset HQ.out (by have := HK.out; omega) ep sq (some ⟨g3, o3, none⟩) 4 c3 [t0, t1, t2, t3] (C.row_below HL3.out (HBw.out.trans (hb4.mono HBw.out.size)) (Nat.le_refl _))
               rw [HE.out.1, HE.out.2] at hrs
               have HRs := Lib.hid hrs
               clear ho hb3 hb4 hrs)
            | (go_at_call 30; with_reducible refine HRs.out.mono ?_; rintro e w5 ⟨rfl, r5, hR5, hbu5⟩
               have HR5 := Lib.hid hR5
               have HT5 := Lib.hid (seven_at HT4.out hbu5 (HR1.out.out HP4.out))
               have HO5 := Lib.hid (HO4.out.but hbu5 (fun g hg => HR1.out.out (HO4.out.lt hg).1))
               have ht := hR5.told (q := B.qB) HQ.out
               simp only at ht
               have HT2 := Lib.hid ht
               clear hR5 hbu5 ht)
            | (go_at_call 13; with_reducible refine HT2.out.mono ?_; rintro e w6 ⟨aU, cU, rfl, ho, hb6⟩
               have hba := (Below.refl w6.heap.size w6).alloc (Nat.le_refl _) (.cells #[.slice aU (num G.nb V.e) cU, .int .i64 ep, .int .i64 sq, .int .i64 t0, .int .i64 t1, .int .i64 t2, .int .i64 t3] 33)
               have hb7 := hb6.trans (hba.mono hb6.size)
               have HR7 := Lib.hid (HR5.out.below hb7)
               have HP7 : Hid (w5.heap.size ≤ w6.heap.size) := Lib.hid hb6.size
               have HT7 : Hid (TAt (w6.alloc (.cells #[.slice aU (num G.nb V.e) cU, .int .i64 ep, .int .i64 sq, .int .i64 t0, .int .i64 t1, .int .i64 t2, .int .i64 t3] 33)) w6.heap.size (.slice aU (num G.nb V.e) cU) ep sq t0 t1 t2 t3) := Lib.hid (TAt.of (heap_alloc_new w6 _))
               have HO7 := Lib.hid (ho.but (But.of_below hba) (by simp))
               have HO57 := Lib.hid (HO5.out.but (But.of_below hb7) (by simp))
               obtain ⟨c0, c1, c2, c3', c4, c5, c6, fz1⟩ := HT7.out
               obtain ⟨d0, d1, d2, d3, d4, d5, d6, fz2⟩ := seven_at HT5.out (But.of_below hb7) (by simp)
               obtain ⟨v0', v1'⟩ := HVc.out _ HR7.out.be
               have HSm := Lib.hid (same_q _ aU aT (num G.nb V.e) cU cT _ _ (allV G.nb V.e) (allV_len _ _) HO7.out HO57.out)
               clear ho hb6 hba hb7)
            | (go_at_call 31; with_reducible refine HSm.out.mono ?_; rintro e w8 ⟨rfl, j8, hw8⟩
               have hb8 : Below (w6.alloc (.cells #[.slice aU (num G.nb V.e) cU, .int .i64 ep, .int .i64 sq, .int .i64 t0, .int .i64 t1, .int .i64 t2, .int .i64 t3] 33)).heap.size (w6.alloc (.cells #[.slice aU (num G.nb V.e) cU, .int .i64 ep, .int .i64 sq, .int .i64 t0, .int .i64 t1, .int .i64 t2, .int .i64 t3] 33)) w8 := by rw [hw8]; exact below_drewN _ _ _
               have HR8 := Lib.hid (HR7.out.below hb8)
               have HT8 := Lib.hid (seven_at HT7.out (But.of_below hb8) (by simp))
               have HO8 := Lib.hid (HO7.out.but (But.of_below hb8) (by simp))
               clear hw8 hb8))
          go_loopw [84] (fun i wz => ∃ k2 : Nat, k2 ≤ 4 ∧ i = .int .i64 k2 ∧ Below w8.heap.size w8 wz) (fun i _ => 4 - (RowKit.intOf i).toNat)
          case atStart => exact ⟨0, by omega, rfl, Below.refl _ _⟩
          case round =>
            obtain ⟨k2, hk2, rfl, hbz⟩ := hrel
            have HBz := Lib.hid hbz
            have HR9 := Lib.hid (HR8.out.below hbz)
            obtain ⟨e0, e1, e2, e3, e4, e5, e6, fz9⟩ := seven_at HT8.out (But.of_below hbz) (by simp)
            obtain ⟨z0, z1, z2, z3⟩ := HG3.out _ (HBv.out.trans (HR9.out.be.mono HBv.out.size))
            clear hbz
            by_cases hk4 : k2 < 4
            · rcases (by omega : k2 = 0 ∨ k2 = 1 ∨ k2 = 2 ∨ k2 = 3) with rfl | rfl | rfl | rfl
              all_goals
                clear hk2 hk4
                go_wp2_with fail
                go_quiet (fail)
                go_wp2_with fail
                go_roundw
                case rel => first | exact ⟨1, by omega, by rfl, HBz.out.trans ((below_drewN _ _ _).mono HBz.out.size)⟩ | exact ⟨2, by omega, by rfl, HBz.out.trans ((below_drewN _ _ _).mono HBz.out.size)⟩ | exact ⟨3, by omega, by rfl, HBz.out.trans ((below_drewN _ _ _).mono HBz.out.size)⟩ | exact ⟨4, by omega, by rfl, HBz.out.trans ((below_drewN _ _ _).mono HBz.out.size)⟩
                case measure => simp [RowKit.intOf]
            · obtain rfl : k2 = 4 := by omega
              have hno := (HR9.out.below ((Below.refl wr.heap.size wr).alloc (Nat.le_refl _) (.cells #[.int .i64 0, .int .i64 0, .int .i64 0, .int .i64 0] 2))).note (q := B.qB) HQ.out (by have := HK.out; omega) 0 0 _ 4 4 _ (zeros4 wr)
              have hz0 := note_zero (V := ⟨V.e, ⟨ep, sq, t0, t1, t2, t3⟩⟩) HMk.out
              rw [hz0.1, hz0.2] at hno
              have HNo := Lib.hid hno
              clear hno hz0 hk2 hk4
              go_wp2_with (go_at_call 32; with_reducible refine HNo.out.mono ?_; rintro e w10 ⟨rfl, r10, hR10, hbu10⟩
                           have hba := (Below.refl wr.heap.size wr).alloc (Nat.le_refl _) (.cells #[.int .i64 0, .int .i64 0, .int .i64 0, .int .i64 0] 2)
                           have hb9 := HBz.out.trans (hba.mono HBz.out.size)
                           have hd10 := (Below.refl w10.heap.size w10).drew
                           have HR10 := Lib.hid (hR10.below hd10)
                           have HT10 := Lib.hid (seven_at (seven_at (seven_at HT8.out (But.of_below hb9) (by simp)) hbu10 (HR5.out.out HP7.out)) (But.of_below hd10) (by simp))
                           have HO10 := Lib.hid (((HO8.out.but (But.of_below hb9) (by simp)).but hbu10 (fun g hg => HR5.out.out (HO8.out.lt hg).1)).but (But.of_below hd10) (by simp))
                           have ht := HR10.out.told (q := B.qB) HQ.out
                           simp only at ht
                           have HT3 := Lib.hid ht
                           clear hR10 hbu10 hba hb9 hd10 ht)
              obtain ⟨i0, i1, i2, i3, i4, i5, i6, _⟩ := HT10.out
              have HS1 := Lib.hid (And.intro i0 (And.intro i1 (And.intro i2 (And.intro i3 (And.intro i4 (And.intro i5 i6))))))
              clear i0 i1 i2 i3 i4 i5 i6
              go_region_held3 (fun w' => w'.cell? ⟨w6.heap.size, 0, none⟩ = some (.slice aU (num G.nb V.e) cU) ∧ w'.cell? ⟨w6.heap.size, 1, none⟩ = some (.int .i64 ep) ∧ w'.cell? ⟨w6.heap.size, 2, none⟩ = some (.int .i64 sq) ∧ w'.cell? ⟨w6.heap.size, 3, none⟩ = some (.int .i64 t0) ∧ w'.cell? ⟨w6.heap.size, 4, none⟩ = some (.int .i64 t1) ∧ w'.cell? ⟨w6.heap.size, 5, none⟩ = some (.int .i64 t2) ∧ w'.cell? ⟨w6.heap.size, 6, none⟩ = some (.int .i64 t3))
                (first
                  | exact HS1.out
                  | exact HS2.out
                  | exact HS3.out)
                (first
                  | (go_at_call 13; with_reducible refine HT3.out.mono ?_; rintro e w11 ⟨aZ, cZ, rfl, ho, hb11⟩
                     have HR11 := Lib.hid (HR10.out.below hb11)
                     obtain ⟨q0, q1, q2, q3, q4, q5, q6, _⟩ := seven_at HT10.out (But.of_below hb11) (by simp)
                     have HS2 := Lib.hid (And.intro q0 (And.intro q1 (And.intro q2 (And.intro q3 (And.intro q4 (And.intro q5 q6))))))
                     have HT11 := Lib.hid (seven_at HT10.out (But.of_below hb11) (by simp))
                     have hal := alike_q w11 aZ aU (num G.nb V.e) cZ cU _ _ (allV G.nb V.e) ⟨ep, sq, t0, t1, t2, t3⟩ (allV_len _ _) ho (HO10.out.but (But.of_below hb11) (by simp))
                     unfold toldV at hal
                     simp only at hal
                     have HAl := Lib.hid hal
                     clear ho hb11 hal q0 q1 q2 q3 q4 q5 q6)
                  | (go_at_call 18; with_reducible refine HAl.out.mono ?_; rintro e w12 ⟨rfl, hb12⟩
                     have HR12 := Lib.hid (HR11.out.below hb12)
                     obtain ⟨q0, q1, q2, q3, q4, q5, q6, _⟩ := seven_at HT11.out (But.of_below hb12) (by simp)
                     have HS3 := Lib.hid (And.intro q0 (And.intro q1 (And.intro q2 (And.intro q3 (And.intro q4 (And.intro q5 q6))))))
                     clear hb12 q0 q1 q2 q3 q4 q5 q6))
              go_wp2_with fail
              go_ret
              exact ⟨rfl, HBv.out.trans (HR12.out.be.mono HBv.out.size)⟩
      · have HE : Hid (keepE ep sq l3 = 1 ∧ resetVi V ep sq l3 = V) := Lib.hid ⟨by unfold keepE; rw [if_neg hok], by unfold resetVi; rw [if_neg hok]⟩
        have HT := Lib.hid (HR1.out.told HQ.out)
        clear hok hmk
        rcases hend with hend | ⟨hend, hend6⟩
        all_goals
          go_wp2_with (first
            | (go_at_call 13; with_reducible refine HT.out.mono ?_; rintro e w3 ⟨aT, cT, rfl, ho, hb3⟩
               have hba := (Below.refl w3.heap.size w3).alloc (Nat.le_refl _) (.cells #[.slice aT (num G.nb V.e) cT, .int .i64 V.k.ep, .int .i64 V.k.sq, .int .i64 V.k.t0, .int .i64 V.k.t1, .int .i64 V.k.t2, .int .i64 V.k.t3] 33)
               have hb4 := hb3.trans (hba.mono hb3.size)
               have HR4 := Lib.hid (HR1.out.below hb4)
               have HP4 : Hid (wr.heap.size ≤ w3.heap.size) := Lib.hid hb3.size
               have HT4 := Lib.hid (Told.new w3 aT (num G.nb V.e) cT V.k)
               have HO4 := Lib.hid (ho.but (But.of_below hba) (by simp))
               obtain ⟨v0, v1⟩ := HVc.out _ HR4.out.be
               have hrs := HR4.out.reset HQ.out (by have := HK.out; omega) ep sq a3 n3 c3 l3 (C.row_below HL3.out (HBw.out.trans (hb4.mono HBw.out.size)) (Nat.le_refl _))
               rw [HE.out.1, HE.out.2] at hrs
               have HRs := Lib.hid hrs
               clear ho hb3 hb4 hrs hba)
            | (go_at_call 30; with_reducible refine HRs.out.mono ?_; rintro e w5 ⟨rfl, r5, hR5, hbu5⟩
               have HR5 := Lib.hid hR5
               have HT5 := Lib.hid (HT4.out.but hbu5 (HR1.out.out HP4.out))
               have HO5 := Lib.hid (HO4.out.but hbu5 (fun g hg => HR1.out.out (HO4.out.lt hg).1))
               have HT2 := Lib.hid (hR5.told (q := B.qB) HQ.out)
               clear hR5 hbu5)
            | (go_at_call 13; with_reducible refine HT2.out.mono ?_; rintro e w6 ⟨aU, cU, rfl, ho, hb6⟩
               have hba := (Below.refl w6.heap.size w6).alloc (Nat.le_refl _) (.cells #[.slice aU (num G.nb V.e) cU, .int .i64 V.k.ep, .int .i64 V.k.sq, .int .i64 V.k.t0, .int .i64 V.k.t1, .int .i64 V.k.t2, .int .i64 V.k.t3] 33)
               have hb7 := hb6.trans (hba.mono hb6.size)
               have HR7 := Lib.hid (HR5.out.below hb7)
               obtain ⟨c0, c1, c2, c3', c4, c5, c6, fz1⟩ := (Told.new w6 aU (num G.nb V.e) cU V.k).at
               obtain ⟨d0, d1, d2, d3, d4, d5, d6, fz2⟩ := (HT5.out.below hb7).at
               have hal := alike_q (w6.alloc (.cells #[.slice aU (num G.nb V.e) cU, .int .i64 V.k.ep, .int .i64 V.k.sq, .int .i64 V.k.t0, .int .i64 V.k.t1, .int .i64 V.k.t2, .int .i64 V.k.t3] 33)) aT aU (num G.nb V.e) cT cU _ _ (allV G.nb V.e) V.k (allV_len _ _) (HO5.out.but (But.of_below hb7) (by simp)) (ho.but (But.of_below hba) (by simp))
               unfold toldV at hal
               have HAl := Lib.hid hal
               clear ho hb6 hba hb7 hal)
            | (go_at_call 18; with_reducible refine HAl.out.mono ?_; rintro e w8 ⟨rfl, hb8⟩
               have HR8 := Lib.hid (HR7.out.below hb8)
               clear hb8))
          go_ret
          exact ⟨rfl, HBv.out.trans (HR8.out.be.mono HBv.out.size)⟩
    · obtain ⟨b, off, x, rfl, hx, hok0, hok, hxa, hbl⟩ := acts9_at HW.out HBw.out (show k < n by omega)
      have HKn : Hid (k < n ∧ k < 60) := Lib.hid ⟨by omega, by omega⟩
      have HX := Lib.hid hxa
      have HOk := Lib.hid hok
      obtain ⟨x0', x1', x2', x3', x4', x5', x6', x7', x8', x9', x10', x11'⟩ := hxa
      have HLg := Lib.hid (fun w' => Ac.large w' x)
      clear hx hok0 hok hbl hkn hk6 hmk
      generalize decide (Lrg x.e x.nT x.s x.nL) = lg at *
      cases lg with
      | true =>
        go_wp2_with (go_at_call 14; with_reducible refine (HLg.out _).mono ?_; rintro e w4 ⟨rfl, hb4⟩; have HB4 := Lib.hid hb4; clear hb4)
        go_ret
        exact ⟨rfl, HBw.out.trans (HB4.out.mono HBw.out.size)⟩
      | false =>
        go_wp2_with (first
          | (go_at_call 14; with_reducible refine (HLg.out _).mono ?_; rintro e w4 ⟨rfl, hb4⟩
             have HB4 := Lib.hid hb4
             have HR4 := Lib.hid (HR1.out.below hb4)
             obtain ⟨y0, y1, y2, y3, y4, y5, y6, y7, y8, y9, y10, y11⟩ := HX.out.below hb4
             have HAc := Lib.hid (HR4.out.act HQ.out (by have := HKn.out; omega) x (HOk.out.below hb4))
             clear hb4)
          | (go_at_call 22; with_reducible refine HAc.out.mono ?_; rintro e w5 ⟨rfl, r5, hR5, _, _⟩
             have HR5 := Lib.hid hR5
             clear hR5))
        go_roundw
        case rel => exact ⟨k + 1, B1.row r5, _, by have := HKn.out; omega, by have := HKn.out; omega, by go_num, HQ.out, HR5.out.mono (by omega)⟩
        case measure => have := HKn.out; simp [RowKit.intOf]; omega
end Q
end Go.Proofs.YtmcalgnpinolmaaGreat
