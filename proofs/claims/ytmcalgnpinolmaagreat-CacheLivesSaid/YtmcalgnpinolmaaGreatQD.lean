/-
  Reset and Note: what they tell, and what becomes of what is seen.
  Rows of entries; All.
  Which entry goes first: the clean ones of all, and of those the one with the lowest version.
  The entry with the lowest version of a row; which entry goes first.
  Put: what it tells, and what becomes of what is seen.
  Put, walked.
-/
import Derived.Test.YtmcalgnpinolmaaGreatQC
import Derived.Test.YtmcalgnpinolmaaGreatLdel
import Derived.Test.YtmcalgnpinolmaaGreatQA
import Derived.Deep.RegionHeldLaw
import Derived.Deep.DeepCutAuto
namespace Go.Proofs.YtmcalgnpinolmaaGreat
open Go.RowKit Go.Maps
set_option linter.unusedVariables false
set_option linter.unusedSimpArgs false
set_option maxRecDepth 20000
namespace Q
variable {B : Bk} {G : Gm} {V : Vi} {K : Int}

open Classical in
noncomputable def keepE (ep sq : Int) (l : List Int) : Int := if keepOk ep sq l then 0 else 1
open Classical in
noncomputable def resetVi (V : Vi) (ep sq : Int) (l : List Int) : Vi := if keepOk ep sq l then ⟨V.e, keepK ep sq l⟩ else V
def noteK (k kk : Kp) : Kp := ⟨if 0 < ord k.ep k.sq kk.ep kk.sq then k.ep else kk.ep, if 0 < ord k.ep k.sq kk.ep kk.sq then k.sq else kk.sq, max kk.t0 k.t0, max kk.t1 k.t1, max kk.t2 k.t2, max kk.t3 k.t3⟩
open Classical in
noncomputable def noteVi (V : Vi) (ep sq : Int) (l : List Int) : Vi := if keepOk ep sq l then ⟨V.e, noteK V.k (keepK ep sq l)⟩ else V

theorem max_in {a b : Int} (h1 : In0 a) (h2 : In0 b) : In0 (max a b) := by unfold In0 at *; omega
theorem noteK_may {k kk : Kp} (h : MayK k) (h2 : MayK kk) : MayK (noteK k kk) := by
  obtain ⟨a1, a2, a3, a4, a5, a6⟩ := h
  obtain ⟨b1, b2, b3, b4, b5, b6⟩ := h2
  refine ⟨?_, ?_, max_in b3 a3, max_in b4 a4, max_in b5 a5, max_in b6 a6⟩
  · unfold noteK; simp only; split <;> assumption
  · unfold noteK; simp only; split <;> assumption

/-- a note of what is kept, built just now, in a world that was drawn from or not -/
theorem note1 (w : World) (h : Cs w B G V K) (hK : K ≤ 700000000) (k : Kp) (hk : MayK k) :
    Calls Tryz.prog 51 #[.pointer (some ⟨B.qB, 0, none⟩), .slice (some ⟨w.heap.size, 0, none⟩) 1 1] (w.alloc (.cells #[.iface 124 (.agg #[]), .int .i64 k.ep, .int .i64 k.sq, .int .i64 k.t0, .int .i64 k.t1, .int .i64 k.t2, .int .i64 k.t3] 98)) fun e w' => e = .returned (.int .i64 0) ∧ ∃ r, Cs w' (B.row r) G ⟨V.e, k⟩ (K + 2002) ∧ (r = B.rb ∨ w.heap.size ≤ r) ∧ But B.l w w' :=
  bring1 w h hK .note k trivial hk h.ok.cn rfl

set_option maxHeartbeats 1000000 in
theorem reset_cs (w : World) (h : Cs w B G V K) (hK : K ≤ 600000000) (ep sq : Int) (a : Option Addr) (n cap : Nat) (l : List Int) (hr : C.Row w a n cap (C.i64s l)) :
    Calls Tryz.prog 30 #[.pointer (some ⟨B.qB, 0, none⟩), .agg #[.int .i64 ep, .int .i64 sq], .slice a n cap] w fun e w' => e = .returned (.int .i64 (keepE ep sq l)) ∧ After w B G (resetVi V ep sq l) (K + 2002) w' := by
  have hb0 := (Below.refl w.heap.size w).alloc (Nat.le_refl _) (.cells #[.int .i64 ep, .int .i64 sq] 30)
  have hr1 := C.row_below hr hb0 (Nat.le_refl _)
  have HB0 := Lib.hid hb0
  have H := Lib.hid h
  unfold keepE resetVi
  by_cases hk : keepOk ep sq l
  · rw [if_pos hk, if_pos hk]
    have HY := Lib.hid (keeping_yes _ ep sq a n cap l hr1 hk)
    have hm := keep_may hk
    generalize keepK ep sq l = kk at *
    have HN : Hid (∀ w1, Below w.heap.size w w1 → Calls Tryz.prog 51 #[.pointer (some ⟨B.qB, 0, none⟩), .slice (some ⟨w1.heap.size, 0, none⟩) 1 1] (w1.alloc (.cells #[.iface 124 (.agg #[]), .int .i64 kk.ep, .int .i64 kk.sq, .int .i64 kk.t0, .int .i64 kk.t1, .int .i64 kk.t2, .int .i64 kk.t3] 98)) fun e w' => e = .returned (.int .i64 0) ∧ After w B G ⟨V.e, kk⟩ (K + 2002) w') := Lib.hid (fun w1 hb => by
      refine (note1 w1 (h.below hb) (by omega) kk hm).mono ?_
      rintro e w' ⟨rfl, r, g1, g2, g3⟩
      exact ⟨rfl, After.from hb g1 g2 g3⟩)
    unfold Kp.val at HY
    clear h hr hr1 hk hm hb0 hK
    go_enter Tryz.func30, Tryz.ntmps30
    go_wp2_with (first
      | (go_at_call 53; with_reducible refine HY.out.mono ?_; rintro e w1 ⟨rfl, hb1⟩
         have HB1 : Hid (Below w.heap.size w (w1.alloc (.cells #[.int .i64 kk.ep, .int .i64 kk.sq, .int .i64 kk.t0, .int .i64 kk.t1, .int .i64 kk.t2, .int .i64 kk.t3] 92))) := Lib.hid ((HB0.out.trans (hb1.mono HB0.out.size)).alloc (HB0.out.trans (hb1.mono HB0.out.size)).size _)
         have HC := Lib.hid (HN.out _ HB1.out)
         rw [show (w1.alloc (.cells #[.int .i64 kk.ep, .int .i64 kk.sq, .int .i64 kk.t0, .int .i64 kk.t1, .int .i64 kk.t2, .int .i64 kk.t3] 92)).heap.size = w1.heap.size + 1 by simp] at HC
         clear hb1)
      | (go_at_call 51; with_reducible refine HC.out.mono ?_; rintro e w2 ⟨rfl, h2⟩; have H2 := Lib.hid h2; clear h2))
    go_ret
    exact ⟨rfl, H2.out⟩
  · rw [if_neg hk, if_neg hk]
    have HY := Lib.hid (keeping_no _ ep sq a n cap l hr1 hk)
    unfold kp0 Kp.val at HY
    clear h hr hr1 hk hb0
    go_enter Tryz.func30, Tryz.ntmps30
    go_wp2_with (go_at_call 53; with_reducible refine HY.out.mono ?_; rintro e w1 ⟨rfl, hb1⟩
                 have HB1 : Hid (Below w.heap.size w w1) := Lib.hid (HB0.out.trans (hb1.mono HB0.out.size))
                 clear hb1)
    go_ret
    exact ⟨rfl, After.same H.out (HB1.out.alloc HB1.out.size _) (by omega)⟩
/-! note -/
/-- what is kept, in a block of its own -/
structure KAt (w : World) (P : Nat) (k : Kp) : Prop where
  c0 : w.cell? ⟨P, 0, none⟩ = some (.int .i64 k.ep)
  c1 : w.cell? ⟨P, 1, none⟩ = some (.int .i64 k.sq)
  c2 : w.cell? ⟨P, 2, none⟩ = some (.int .i64 k.t0)
  c3 : w.cell? ⟨P, 3, none⟩ = some (.int .i64 k.t1)
  c4 : w.cell? ⟨P, 4, none⟩ = some (.int .i64 k.t2)
  c5 : w.cell? ⟨P, 5, none⟩ = some (.int .i64 k.t3)
  fz : ∀ o, w.frozen? ⟨P, o, none⟩ = false
theorem KAt.new (w : World) (k : Kp) : KAt (w.alloc (.cells #[.int .i64 k.ep, .int .i64 k.sq, .int .i64 k.t0, .int .i64 k.t1, .int .i64 k.t2, .int .i64 k.t3] 92)) w.heap.size k := by
  have hx := heap_alloc_new w (.cells #[.int .i64 k.ep, .int .i64 k.sq, .int .i64 k.t0, .int .i64 k.t1, .int .i64 k.t2, .int .i64 k.t3] 92)
  refine ⟨?_, ?_, ?_, ?_, ?_, ?_, fun o => ?_⟩
  iterate 6 (rw [World.cell?_alloc_mark]; rfl)
  rw [World.frozen?_of_block (w := w.alloc _) (a := ⟨w.heap.size, o, none⟩) rfl]
  simp only [World.frozen?, hx]
  simp
theorem KAt.but {w w' : World} {P : Nat} {k : Kp} (h : KAt w P k) {q : List Nat} (hb : But q w w') (hn : P ∉ q) : KAt w' P k := by
  have hl := World.block_lt_of_cell? w _ h.c0
  exact ⟨by rw [hb.cell hl hn]; exact h.c0, by rw [hb.cell hl hn]; exact h.c1, by rw [hb.cell hl hn]; exact h.c2, by rw [hb.cell hl hn]; exact h.c3, by rw [hb.cell hl hn]; exact h.c4, by rw [hb.cell hl hn]; exact h.c5, fun o => by rw [hb.frozen hl hn]; exact h.fz o⟩
theorem KAt.set0 {w : World} {P : Nat} {k : Kp} (h : KAt w P k) (v : Int) : KAt (w.setCell ⟨P, 0, none⟩ (.int .i64 v)) P ⟨v, k.sq, k.t0, k.t1, k.t2, k.t3⟩ :=
  ⟨World.cell?_setCell_same _ _ _ h.c0, by rw [World.cell?_setCell_other _ _ _ _ (by simp)]; exact h.c1, by rw [World.cell?_setCell_other _ _ _ _ (by simp)]; exact h.c2, by rw [World.cell?_setCell_other _ _ _ _ (by simp)]; exact h.c3, by rw [World.cell?_setCell_other _ _ _ _ (by simp)]; exact h.c4, by rw [World.cell?_setCell_other _ _ _ _ (by simp)]; exact h.c5, fun o => by simpa using h.fz o⟩
theorem KAt.set1 {w : World} {P : Nat} {k : Kp} (h : KAt w P k) (v : Int) : KAt (w.setCell ⟨P, 1, none⟩ (.int .i64 v)) P ⟨k.ep, v, k.t0, k.t1, k.t2, k.t3⟩ :=
  ⟨by rw [World.cell?_setCell_other _ _ _ _ (by simp)]; exact h.c0, World.cell?_setCell_same _ _ _ h.c1, by rw [World.cell?_setCell_other _ _ _ _ (by simp)]; exact h.c2, by rw [World.cell?_setCell_other _ _ _ _ (by simp)]; exact h.c3, by rw [World.cell?_setCell_other _ _ _ _ (by simp)]; exact h.c4, by rw [World.cell?_setCell_other _ _ _ _ (by simp)]; exact h.c5, fun o => by simpa using h.fz o⟩
theorem KAt.set2 {w : World} {P : Nat} {k : Kp} (h : KAt w P k) (v : Int) : KAt (w.setCell ⟨P, 2, none⟩ (.int .i64 v)) P ⟨k.ep, k.sq, v, k.t1, k.t2, k.t3⟩ :=
  ⟨by rw [World.cell?_setCell_other _ _ _ _ (by simp)]; exact h.c0, by rw [World.cell?_setCell_other _ _ _ _ (by simp)]; exact h.c1, World.cell?_setCell_same _ _ _ h.c2, by rw [World.cell?_setCell_other _ _ _ _ (by simp)]; exact h.c3, by rw [World.cell?_setCell_other _ _ _ _ (by simp)]; exact h.c4, by rw [World.cell?_setCell_other _ _ _ _ (by simp)]; exact h.c5, fun o => by simpa using h.fz o⟩
theorem KAt.set3 {w : World} {P : Nat} {k : Kp} (h : KAt w P k) (v : Int) : KAt (w.setCell ⟨P, 3, none⟩ (.int .i64 v)) P ⟨k.ep, k.sq, k.t0, v, k.t2, k.t3⟩ :=
  ⟨by rw [World.cell?_setCell_other _ _ _ _ (by simp)]; exact h.c0, by rw [World.cell?_setCell_other _ _ _ _ (by simp)]; exact h.c1, by rw [World.cell?_setCell_other _ _ _ _ (by simp)]; exact h.c2, World.cell?_setCell_same _ _ _ h.c3, by rw [World.cell?_setCell_other _ _ _ _ (by simp)]; exact h.c4, by rw [World.cell?_setCell_other _ _ _ _ (by simp)]; exact h.c5, fun o => by simpa using h.fz o⟩
theorem KAt.set4 {w : World} {P : Nat} {k : Kp} (h : KAt w P k) (v : Int) : KAt (w.setCell ⟨P, 4, none⟩ (.int .i64 v)) P ⟨k.ep, k.sq, k.t0, k.t1, v, k.t3⟩ :=
  ⟨by rw [World.cell?_setCell_other _ _ _ _ (by simp)]; exact h.c0, by rw [World.cell?_setCell_other _ _ _ _ (by simp)]; exact h.c1, by rw [World.cell?_setCell_other _ _ _ _ (by simp)]; exact h.c2, by rw [World.cell?_setCell_other _ _ _ _ (by simp)]; exact h.c3, World.cell?_setCell_same _ _ _ h.c4, by rw [World.cell?_setCell_other _ _ _ _ (by simp)]; exact h.c5, fun o => by simpa using h.fz o⟩
theorem KAt.set5 {w : World} {P : Nat} {k : Kp} (h : KAt w P k) (v : Int) : KAt (w.setCell ⟨P, 5, none⟩ (.int .i64 v)) P ⟨k.ep, k.sq, k.t0, k.t1, k.t2, v⟩ :=
  ⟨by rw [World.cell?_setCell_other _ _ _ _ (by simp)]; exact h.c0, by rw [World.cell?_setCell_other _ _ _ _ (by simp)]; exact h.c1, by rw [World.cell?_setCell_other _ _ _ _ (by simp)]; exact h.c2, by rw [World.cell?_setCell_other _ _ _ _ (by simp)]; exact h.c3, by rw [World.cell?_setCell_other _ _ _ _ (by simp)]; exact h.c4, World.cell?_setCell_same _ _ _ h.c5, fun o => by simpa using h.fz o⟩
theorem index4 (a b c d : Int) (w : World) : (Instr.index 31 (.agg #[.int .i64 a, .int .i64 b, .int .i64 c, .int .i64 d]) (.int .i64 0)).run Tryz.prog w = .ok (.int .i64 a) w ∧ (Instr.index 31 (.agg #[.int .i64 a, .int .i64 b, .int .i64 c, .int .i64 d]) (.int .i64 1)).run Tryz.prog w = .ok (.int .i64 b) w ∧ (Instr.index 31 (.agg #[.int .i64 a, .int .i64 b, .int .i64 c, .int .i64 d]) (.int .i64 2)).run Tryz.prog w = .ok (.int .i64 c) w ∧ (Instr.index 31 (.agg #[.int .i64 a, .int .i64 b, .int .i64 c, .int .i64 d]) (.int .i64 3)).run Tryz.prog w = .ok (.int .i64 d) w := ⟨by kernel_rfl, by kernel_rfl, by kernel_rfl, by kernel_rfl⟩
theorem wpList_index4 (w : World) {ops : Array Oper} {rest : List Oper} {o : Oper} {act : Act} {Q : Exit → Act → World → Prop} (hgd : o.guard = none) (x i : Operand) (ho : o.op = .index 31 x i) (v : Value)
    (hrun : (Instr.index 31 (act.eval x) (act.eval i)).run Tryz.prog w = .ok v w) (h : wpList Tryz.prog ops Q rest (act.put o.dst v) w) : wpList Tryz.prog ops Q (o :: rest) act w := by
  refine wpList_plain hgd fun K hK => ?_
  unfold Oper.wp
  simp [execOp, ho, hrun, Result.andThen]
  exact hK _ _ h
def mixK (e s : Int) (k kk : Kp) (n : Nat) : Kp := ⟨e, s, if 0 < n then max kk.t0 k.t0 else kk.t0, if 1 < n then max kk.t1 k.t1 else kk.t1, if 2 < n then max kk.t2 k.t2 else kk.t2, if 3 < n then max kk.t3 k.t3 else kk.t3⟩

set_option maxHeartbeats 4000000 in
theorem note_cs (w : World) (h : Cs w B G V K) (hK : K ≤ 600000000) (ep sq : Int) (a : Option Addr) (n cap : Nat) (l : List Int) (hr : C.Row w a n cap (C.i64s l)) :
    Calls Tryz.prog 32 #[.pointer (some ⟨B.qB, 0, none⟩), .agg #[.int .i64 ep, .int .i64 sq], .slice a n cap] w fun e w' => e = .returned (.int .i64 (keepE ep sq l)) ∧ After w B G (noteVi V ep sq l) (K + 2002) w' := by
  have hb0 := (Below.refl w.heap.size w).alloc (Nat.le_refl _) (.cells #[.int .i64 ep, .int .i64 sq] 30)
  have hr1 := C.row_below hr hb0 (Nat.le_refl _)
  have HB0 := Lib.hid hb0
  have H := Lib.hid h
  unfold keepE noteVi
  by_cases hk : keepOk ep sq l
  · rw [if_pos hk, if_pos hk]
    have HY := Lib.hid (keeping_yes _ ep sq a n cap l hr1 hk)
    have hm := keep_may hk
    generalize keepK ep sq l = kk at *
    have Hm := Lib.hid hm
    have HN : Hid (∀ k, MayK k → ∀ w1, Below w.heap.size w w1 → Calls Tryz.prog 51 #[.pointer (some ⟨B.qB, 0, none⟩), .slice (some ⟨w1.heap.size, 0, none⟩) 1 1] (w1.alloc (.cells #[.iface 124 (.agg #[]), .int .i64 k.ep, .int .i64 k.sq, .int .i64 k.t0, .int .i64 k.t1, .int .i64 k.t2, .int .i64 k.t3] 98)) fun e w' => e = .returned (.int .i64 0) ∧ After w B G ⟨V.e, k⟩ (K + 2002) w') := Lib.hid (fun k hmk w1 hb => by
      refine (note1 w1 (h.below hb) (by omega) k hmk).mono ?_
      rintro e w' ⟨rfl, r, g1, g2, g3⟩
      exact ⟨rfl, After.from hb g1 g2 g3⟩)
    have HKm := Lib.hid (noteK_may h.ok.kk hm)
    unfold Kp.val at HY
    clear h hr hr1 hk hm hb0 hK
    go_enter Tryz.func32, Tryz.ntmps32
    go_wp2_with (go_at_call 53; with_reducible refine HY.out.mono ?_; rintro e w1 ⟨rfl, hb1⟩
                 have HB1 : Hid (Below w.heap.size w (w1.alloc (.cells #[.int .i64 kk.ep, .int .i64 kk.sq, .int .i64 kk.t0, .int .i64 kk.t1, .int .i64 kk.t2, .int .i64 kk.t3] 92))) := Lib.hid ((HB0.out.trans (hb1.mono HB0.out.size)).alloc (HB0.out.trans (hb1.mono HB0.out.size)).size _)
                 have HP := Lib.hid (KAt.new w1 kk)
                 have HPw : Hid (w.heap.size ≤ w1.heap.size) := Lib.hid (HB0.out.trans (hb1.mono HB0.out.size)).size
                 clear hb1)
    have HSz : Hid (w1.heap.size < (w1.alloc (.cells #[.int .i64 kk.ep, .int .i64 kk.sq, .int .i64 kk.t0, .int .i64 kk.t1, .int .i64 kk.t2, .int .i64 kk.t3] 92)).heap.size) := Lib.hid (by simp)
    generalize w1.alloc (.cells #[.int .i64 kk.ep, .int .i64 kk.sq, .int .i64 kk.t0, .int .i64 kk.t1, .int .i64 kk.t2, .int .i64 kk.t3] 92) = w2 at *
    generalize w1.heap.size = P at *
    have HS : Hid (∀ w', Below w2.heap.size w2 w' → KAt w' P kk ∧ w'.cell? ⟨B.qB, 4, none⟩ = some (.int .i64 V.k.ep) ∧ w'.cell? ⟨B.qB, 5, none⟩ = some (.int .i64 V.k.sq) ∧ w'.cell? ⟨P, 0, none⟩ = some (.int .i64 kk.ep) ∧ w'.cell? ⟨P, 1, none⟩ = some (.int .i64 kk.sq)) := Lib.hid (fun w' hb => by
      have g := (H.out.below (HB1.out.trans (hb.mono HB1.out.size))).qc
      have kp := HP.out.but (But.of_below hb) (by simp)
      exact ⟨kp, g.p4, g.p5, kp.c0, kp.c1⟩)
    have HS1 := Lib.hid (HS.out w2.drew ((Below.refl _ _).drew)).2
    go_region_held3 (fun w' => w'.cell? ⟨B.qB, 4, none⟩ = some (.int .i64 V.k.ep) ∧ w'.cell? ⟨B.qB, 5, none⟩ = some (.int .i64 V.k.sq) ∧ w'.cell? ⟨P, 0, none⟩ = some (.int .i64 kk.ep) ∧ w'.cell? ⟨P, 1, none⟩ = some (.int .i64 kk.sq))
      (first
        | exact HS1.out
        | exact HS3.out)
      (first
        | (go_at_call 49; with_reducible refine (order_q _ _ _ _ _).mono ?_; rintro e w3 ⟨rfl, hb3⟩
           have HB3 : Hid (Below w2.heap.size w2 w3) := Lib.hid (((Below.refl _ _).drew).trans hb3)
           have HS3 := Lib.hid (HS.out w3 HB3.out).2
           clear hb3))
    have HK3 := Lib.hid (HS.out w3 HB3.out).1
    have HBw3 : Hid (Below w.heap.size w w3) := Lib.hid (HB1.out.trans (HB3.out.mono HB1.out.size))
    have HSz3 : Hid (P < w3.heap.size) := Lib.hid (Nat.lt_of_lt_of_le HSz.out HB3.out.size)
    clear HS1 HS3 HS HP HY
    by_cases hc : 0 < ord V.k.ep V.k.sq kk.ep kk.sq
    · have HC0 := Lib.hid hc
      have g := (H.out.below HBw3.out).qc
      have p4 := g.p4
      have p5 := g.p5
      have d0 := HK3.out.c0
      have d1 := HK3.out.c1
      have fz := HK3.out.fz
      clear g
      have HK4 := Lib.hid ((HK3.out.set0 V.k.ep).set1 V.k.sq)
      have HB4 : Hid (Below w.heap.size w ((w3.setCell ⟨P, 0, none⟩ (.int .i64 V.k.ep)).setCell ⟨P, 1, none⟩ (.int .i64 V.k.sq))) := Lib.hid ((HBw3.out.setCell HPw.out _).setCell HPw.out _)
      have HG4 := Lib.hid (H.out.below HB4.out).qc
      have p6 := HG4.out.p6
      have p7 := HG4.out.p7
      have p8 := HG4.out.p8
      have p9 := HG4.out.p9
      go_wp2_with fail
      have HE : Hid (mixK V.k.ep V.k.sq V.k kk 4 = noteK V.k kk) := Lib.hid (by unfold mixK noteK; rw [if_pos HC0.out, if_pos HC0.out]; simp)
      go_loopw [39] (fun i wr => ∃ (k : Nat), k ≤ 4 ∧ i = .int .i64 k ∧ KAt wr P (mixK V.k.ep V.k.sq V.k kk k) ∧ Below w.heap.size w wr) (fun i _ => 4 - (RowKit.intOf i).toNat)
      case atStart => exact ⟨0, by omega, rfl, HK4.out, HB4.out⟩
      case round =>
        obtain ⟨k, hk, rfl, hkat, hbr⟩ := hrel
        have HKr := Lib.hid hkat
        have HBr := Lib.hid hbr
        clear hkat hbr p6 p7 p8 p9 d0 d1 p4 p5 fz
        have hcase : k = 0 ∨ k = 1 ∨ k = 2 ∨ k = 3 ∨ k = 4 := by omega
        rcases hcase with rfl | rfl | rfl | rfl | rfl
        · have c : wr.cell? ⟨P, 2, none⟩ = some (.int .i64 kk.t0) := HKr.out.c2
          have fz := HKr.out.fz
          have ix := index4 V.k.t0 V.k.t1 V.k.t2 V.k.t3 wr
          have HK5 : Hid (KAt (wr.setCell ⟨P, 2, none⟩ (.int .i64 (max kk.t0 V.k.t0))) P (mixK V.k.ep V.k.sq V.k kk 1)) := Lib.hid (HKr.out.set2 _)
          have HB5 : Hid (Below w.heap.size w (wr.setCell ⟨P, 2, none⟩ (.int .i64 (max kk.t0 V.k.t0)))) := Lib.hid (HBr.out.setCell HPw.out _)
          go_wp2_with (refine wpList_index4 _ rfl (.tmp 38) (.tmp 39) rfl (.int .i64 V.k.t0) ix.1 ?_)
          go_roundw
          case rel => exact ⟨1, by omega, by go_num, HK5.out, HB5.out⟩
          case measure => simp [RowKit.intOf]
        · have c : wr.cell? ⟨P, 3, none⟩ = some (.int .i64 kk.t1) := HKr.out.c3
          have fz := HKr.out.fz
          have ix := index4 V.k.t0 V.k.t1 V.k.t2 V.k.t3 wr
          have HK5 : Hid (KAt (wr.setCell ⟨P, 3, none⟩ (.int .i64 (max kk.t1 V.k.t1))) P (mixK V.k.ep V.k.sq V.k kk 2)) := Lib.hid (HKr.out.set3 _)
          have HB5 : Hid (Below w.heap.size w (wr.setCell ⟨P, 3, none⟩ (.int .i64 (max kk.t1 V.k.t1)))) := Lib.hid (HBr.out.setCell HPw.out _)
          go_wp2_with (refine wpList_index4 _ rfl (.tmp 38) (.tmp 39) rfl (.int .i64 V.k.t1) ix.2.1 ?_)
          go_roundw
          case rel => exact ⟨2, by omega, by go_num, HK5.out, HB5.out⟩
          case measure => simp [RowKit.intOf]
        · have c : wr.cell? ⟨P, 4, none⟩ = some (.int .i64 kk.t2) := HKr.out.c4
          have fz := HKr.out.fz
          have ix := index4 V.k.t0 V.k.t1 V.k.t2 V.k.t3 wr
          have HK5 : Hid (KAt (wr.setCell ⟨P, 4, none⟩ (.int .i64 (max kk.t2 V.k.t2))) P (mixK V.k.ep V.k.sq V.k kk 3)) := Lib.hid (HKr.out.set4 _)
          have HB5 : Hid (Below w.heap.size w (wr.setCell ⟨P, 4, none⟩ (.int .i64 (max kk.t2 V.k.t2)))) := Lib.hid (HBr.out.setCell HPw.out _)
          go_wp2_with (refine wpList_index4 _ rfl (.tmp 38) (.tmp 39) rfl (.int .i64 V.k.t2) ix.2.2.1 ?_)
          go_roundw
          case rel => exact ⟨3, by omega, by go_num, HK5.out, HB5.out⟩
          case measure => simp [RowKit.intOf]
        · have c : wr.cell? ⟨P, 5, none⟩ = some (.int .i64 kk.t3) := HKr.out.c5
          have fz := HKr.out.fz
          have ix := index4 V.k.t0 V.k.t1 V.k.t2 V.k.t3 wr
          have HK5 : Hid (KAt (wr.setCell ⟨P, 5, none⟩ (.int .i64 (max kk.t3 V.k.t3))) P (mixK V.k.ep V.k.sq V.k kk 4)) := Lib.hid (HKr.out.set5 _)
          have HB5 : Hid (Below w.heap.size w (wr.setCell ⟨P, 5, none⟩ (.int .i64 (max kk.t3 V.k.t3)))) := Lib.hid (HBr.out.setCell HPw.out _)
          go_wp2_with (refine wpList_index4 _ rfl (.tmp 38) (.tmp 39) rfl (.int .i64 V.k.t3) ix.2.2.2 ?_)
          go_roundw
          case rel => exact ⟨4, by omega, by go_num, HK5.out, HB5.out⟩
          case measure => simp [RowKit.intOf]
        · have HKn : Hid (KAt wr P (noteK V.k kk)) := Lib.hid (by rw [← HE.out]; exact HKr.out)
          have c0 := HKn.out.c0
          have c1 := HKn.out.c1
          have c2 := HKn.out.c2
          have c3 := HKn.out.c3
          have c4 := HKn.out.c4
          have c5 := HKn.out.c5
          have HC := Lib.hid (HN.out _ HKm.out wr HBr.out)
          have hnk : ∃ nk, nk = noteK V.k kk := ⟨_, rfl⟩
          obtain ⟨nk, hnk⟩ := hnk
          have HNK := Lib.hid hnk
          rw [← hnk] at HC c0 c1 c2 c3 c4 c5
          clear hnk
          go_wp2_with (go_at_call 51; with_reducible refine HC.out.mono ?_; rintro e w6 ⟨rfl, h6⟩; have H6 := Lib.hid h6; clear h6)
          go_ret
          exact ⟨rfl, HNK.out ▸ H6.out⟩
    · have HC0 := Lib.hid hc
      have HK4 := HK3
      have HB4 := HBw3
      have HG4 := Lib.hid (H.out.below HB4.out).qc
      have p6 := HG4.out.p6
      have p7 := HG4.out.p7
      have p8 := HG4.out.p8
      have p9 := HG4.out.p9
      go_wp2_with fail
      have HE : Hid (mixK kk.ep kk.sq V.k kk 4 = noteK V.k kk) := Lib.hid (by
        have hn : ¬ (0 < ord V.k.ep V.k.sq kk.ep kk.sq) := by have := HC0.out; omega
        unfold mixK noteK; rw [if_neg hn, if_neg hn]; simp)
      go_loopw [39] (fun i wr => ∃ (k : Nat), k ≤ 4 ∧ i = .int .i64 k ∧ KAt wr P (mixK kk.ep kk.sq V.k kk k) ∧ Below w.heap.size w wr) (fun i _ => 4 - (RowKit.intOf i).toNat)
      case atStart => exact ⟨0, by omega, rfl, HK4.out, HB4.out⟩
      case round =>
        obtain ⟨k, hk, rfl, hkat, hbr⟩ := hrel
        have HKr := Lib.hid hkat
        have HBr := Lib.hid hbr
        clear hkat hbr p6 p7 p8 p9
        have hcase : k = 0 ∨ k = 1 ∨ k = 2 ∨ k = 3 ∨ k = 4 := by omega
        rcases hcase with rfl | rfl | rfl | rfl | rfl
        · have c : wr.cell? ⟨P, 2, none⟩ = some (.int .i64 kk.t0) := HKr.out.c2
          have fz := HKr.out.fz
          have ix := index4 V.k.t0 V.k.t1 V.k.t2 V.k.t3 wr
          have HK5 : Hid (KAt (wr.setCell ⟨P, 2, none⟩ (.int .i64 (max kk.t0 V.k.t0))) P (mixK kk.ep kk.sq V.k kk 1)) := Lib.hid (HKr.out.set2 _)
          have HB5 : Hid (Below w.heap.size w (wr.setCell ⟨P, 2, none⟩ (.int .i64 (max kk.t0 V.k.t0)))) := Lib.hid (HBr.out.setCell HPw.out _)
          go_wp2_with (refine wpList_index4 _ rfl (.tmp 38) (.tmp 39) rfl (.int .i64 V.k.t0) ix.1 ?_)
          go_roundw
          case rel => exact ⟨1, by omega, by go_num, HK5.out, HB5.out⟩
          case measure => simp [RowKit.intOf]
        · have c : wr.cell? ⟨P, 3, none⟩ = some (.int .i64 kk.t1) := HKr.out.c3
          have fz := HKr.out.fz
          have ix := index4 V.k.t0 V.k.t1 V.k.t2 V.k.t3 wr
          have HK5 : Hid (KAt (wr.setCell ⟨P, 3, none⟩ (.int .i64 (max kk.t1 V.k.t1))) P (mixK kk.ep kk.sq V.k kk 2)) := Lib.hid (HKr.out.set3 _)
          have HB5 : Hid (Below w.heap.size w (wr.setCell ⟨P, 3, none⟩ (.int .i64 (max kk.t1 V.k.t1)))) := Lib.hid (HBr.out.setCell HPw.out _)
          go_wp2_with (refine wpList_index4 _ rfl (.tmp 38) (.tmp 39) rfl (.int .i64 V.k.t1) ix.2.1 ?_)
          go_roundw
          case rel => exact ⟨2, by omega, by go_num, HK5.out, HB5.out⟩
          case measure => simp [RowKit.intOf]
        · have c : wr.cell? ⟨P, 4, none⟩ = some (.int .i64 kk.t2) := HKr.out.c4
          have fz := HKr.out.fz
          have ix := index4 V.k.t0 V.k.t1 V.k.t2 V.k.t3 wr
          have HK5 : Hid (KAt (wr.setCell ⟨P, 4, none⟩ (.int .i64 (max kk.t2 V.k.t2))) P (mixK kk.ep kk.sq V.k kk 3)) := Lib.hid (HKr.out.set4 _)
          have HB5 : Hid (Below w.heap.size w (wr.setCell ⟨P, 4, none⟩ (.int .i64 (max kk.t2 V.k.t2)))) := Lib.hid (HBr.out.setCell HPw.out _)
          go_wp2_with (refine wpList_index4 _ rfl (.tmp 38) (.tmp 39) rfl (.int .i64 V.k.t2) ix.2.2.1 ?_)
          go_roundw
          case rel => exact ⟨3, by omega, by go_num, HK5.out, HB5.out⟩
          case measure => simp [RowKit.intOf]
        · have c : wr.cell? ⟨P, 5, none⟩ = some (.int .i64 kk.t3) := HKr.out.c5
          have fz := HKr.out.fz
          have ix := index4 V.k.t0 V.k.t1 V.k.t2 V.k.t3 wr
          have HK5 : Hid (KAt (wr.setCell ⟨P, 5, none⟩ (.int .i64 (max kk.t3 V.k.t3))) P (mixK kk.ep kk.sq V.k kk 4)) := Lib.hid (HKr.out.set5 _)
          have HB5 : Hid (Below w.heap.size w (wr.setCell ⟨P, 5, none⟩ (.int .i64 (max kk.t3 V.k.t3)))) := Lib.hid (HBr.out.setCell HPw.out _)
          go_wp2_with (refine wpList_index4 _ rfl (.tmp 38) (.tmp 39) rfl (.int .i64 V.k.t3) ix.2.2.2 ?_)
          go_roundw
          case rel => exact ⟨4, by omega, by go_num, HK5.out, HB5.out⟩
          case measure => simp [RowKit.intOf]
        · have HKn : Hid (KAt wr P (noteK V.k kk)) := Lib.hid (by rw [← HE.out]; exact HKr.out)
          have c0 := HKn.out.c0
          have c1 := HKn.out.c1
          have c2 := HKn.out.c2
          have c3 := HKn.out.c3
          have c4 := HKn.out.c4
          have c5 := HKn.out.c5
          have HC := Lib.hid (HN.out _ HKm.out wr HBr.out)
          have hnk : ∃ nk, nk = noteK V.k kk := ⟨_, rfl⟩
          obtain ⟨nk, hnk⟩ := hnk
          have HNK := Lib.hid hnk
          rw [← hnk] at HC c0 c1 c2 c3 c4 c5
          clear hnk
          go_wp2_with (go_at_call 51; with_reducible refine HC.out.mono ?_; rintro e w6 ⟨rfl, h6⟩; have H6 := Lib.hid h6; clear h6)
          go_ret
          exact ⟨rfl, HNK.out ▸ H6.out⟩
  · rw [if_neg hk, if_neg hk]
    have HY := Lib.hid (keeping_no _ ep sq a n cap l hr1 hk)
    unfold kp0 Kp.val at HY
    clear h hr hr1 hk hb0
    go_enter Tryz.func32, Tryz.ntmps32
    go_wp2_with (go_at_call 53; with_reducible refine HY.out.mono ?_; rintro e w1 ⟨rfl, hb1⟩
                 have HB1 : Hid (Below w.heap.size w w1) := Lib.hid (HB0.out.trans (hb1.mono HB0.out.size))
                 clear hb1)
    go_ret
    exact ⟨rfl, After.same H.out (HB1.out.alloc HB1.out.size _) (by omega)⟩
end Q
end Go.Proofs.YtmcalgnpinolmaaGreat
namespace Go.Proofs.YtmcalgnpinolmaaGreat
open Go.RowKit Go.Maps Go.Sort Go.Shelf
set_option linter.unusedVariables false
set_option linter.unusedSimpArgs false
set_option maxRecDepth 20000
namespace Q
variable {B : Bk} {G : Gm} {V : Vi} {K : Int}

theorem keysB_q (mb : Option Nat) (W : World) : Calls Tryz.prog 47 #[.map mb] W fun e w' => e = .returned (.func (.func 67) #[] #[.pointer (some ⟨W.heap.size, 0, none⟩)]) ∧ w' = W.alloc (.cells #[.map mb] 90) :=
  (callsIn_wide (n := 5)).1 (AnyZI.keys_in Tryz.keysB Fence.wide 5 trivial rfl mb W)

theorem sortedB_q (w : World) (mE N : Nat) (D : DataW Unit) (hown : w.ownsMap (H := Unit) Tryz.prog 3 laidR mE N D) (hmax : Maps.size D ≤ 512) :
    Calls Tryz.prog 46 #[.func (.func 67) #[] #[.pointer (some ⟨w.heap.size, 0, none⟩)]] (w.alloc (.cells #[.map (some mE)] 90)) fun e w' => ∃ (v : Value) (ss : List Int), e = .returned v ∧ ss.Perm (intKeys D) ∧
      w'.ownsRow w.heap.size 3 1 v ss.length (ints (ss.mergeSort (fun x y => decide (x ≤ y)))) ∧ Below w.heap.size w w' := by
  have hbl := hown.lt
  have hseq : SeqGives Fence.wide 2 Tryz.prog 67 #[.pointer (some ⟨w.heap.size, 0, none⟩)] encZ (fun ss => ss.Perm (intKeys D)) (Maps.size D) (w.alloc (.cells #[.map (some mE)] 90)) :=
    AnyZI.keys_gives (ρ := Tryz.keysB_ren) { Tryz.keysB with } Fence.wide _ trivial rfl (by omega) w.heap.size mE N D _ (by simp) (by simp) (by
      obtain ⟨es, clock, hb, Ft, hs, hD⟩ := hown
      exact ⟨es, clock, (Below.heap_alloc _ _ mE hbl).trans hb, Ft, hs, hD⟩)
  have cS := AnyZI.sorted_in Tryz.sortedA Fence.wide 5 trivial trivial trivial trivial rfl (by omega) (sorts_ok _) (enters_of Tryz.func66 (by kernel_rfl) rfl) 67 #[.pointer (some ⟨w.heap.size, 0, none⟩)] trivial (enters_of Tryz.func67 (by kernel_rfl) rfl) _ _ (show Maps.size D ≤ maxLen by simp only [maxLen]; omega) (by omega) _ hseq
  refine ((callsIn_wide (n := 5)).1 cS).mono ?_
  rintro e w' ⟨v, ss, rfl, hS, hrow, hnil, hb⟩
  exact ⟨v, ss, rfl, hS, ownsRow_base_a hrow (by simp), ((Below.refl _ w).alloc (Nat.le_refl _) _).trans (hb.mono (by simp))⟩

/-! rows of entries -/
def ents : List En → List Value
  | [] => []
  | x :: l => x.cells.toList ++ ents l
theorem ents_length : ∀ l : List En, (ents l).length = l.length * 7
  | [] => rfl
  | x :: l => by simp only [ents, List.length_append, List.length_cons, ents_length l, En.cells]; simp; omega
theorem ents_append : ∀ l m : List En, ents (l ++ m) = ents l ++ ents m
  | [], m => rfl
  | x :: l, m => by simp only [ents, List.cons_append, ents_append l m, List.append_assoc]
theorem ents_get : ∀ {l : List En} {i : Nat} {x : En}, l[i]? = some x → ∀ j v, x.cells.toList[j]? = some v → (ents l)[i * 7 + j]? = some v
  | [], i, x, h, _, _, _ => by simp at h
  | q :: l, 0, x, h, j, v, hv => by
    simp at h; subst h
    have hj : j < q.cells.toList.length := (List.getElem?_eq_some_iff.1 hv).1
    rw [Nat.zero_mul, Nat.zero_add, ents, List.getElem?_append_left hj]
    exact hv
  | q :: l, i + 1, x, h, j, v, hv => by
    have := ents_get (l := l) (i := i) (x := x) (by simpa using h) j v hv
    have h7 : q.cells.toList.length = 7 := rfl
    rw [show (i + 1) * 7 + j = 7 + (i * 7 + j) by omega, ents, List.getElem?_append_right (by omega), h7, Nat.add_sub_cancel_left]
    exact this
theorem ents_one : ∀ l : List En, ∀ u ∈ ents l, u.oneCell' = true
  | [], u, h => by simp [ents] at h
  | x :: l, u, h => by
    simp only [ents, List.mem_append] at h
    rcases h with h | h
    · simp [En.cells] at h
      rcases h with rfl | rfl | rfl | rfl | rfl | rfl | rfl <;> rfl
    · exact ents_one l u h

theorem ent_info : (Tryz.prog.info? 37).map (fun i => (i.zero, i.size, i.bytes)) = some (some zeroE.val, 7, 64) := by kernel_rfl
/-! own rows -/
def OwnE (B0 : Nat) (w : World) (a : Option Addr) (cap : Nat) (l : List En) : Prop := w.ownsRow B0 37 7 (.slice a l.length cap) l.length (ents l) ∧ l.length ≤ 1000
theorem OwnE.nil (B0 : Nat) (w : World) : OwnE B0 w none 0 [] := ⟨World.ownsRow_nil _ _ _ _, by simp⟩
theorem OwnE.ways {B0 : Nat} {w : World} {a : Option Addr} {cap : Nat} {l : List En} (h : OwnE B0 w a cap l) : (a = none ∧ cap = 0 ∧ l = []) ∨
    ∃ g cur, a = some ⟨g, 0, none⟩ ∧ B0 ≤ g ∧ w.heap[g]? = some (.cells cur 37 (0, 0)) ∧ l.length ≤ cap ∧ cap ≤ maxLen ∧ cur.size = cap * 7 ∧ cur.toList.take (l.length * 7) = ents l := by
  rcases h.1.2 with ⟨hv, h0⟩ | ⟨g, c, cur, hv, hB, hh, hn, hm, hs, ht⟩
  · injection hv with e1 e2 e3
    exact .inl ⟨e1, e3, List.eq_nil_of_length_eq_zero h0⟩
  · injection hv with e1 e2 e3
    subst e1 e3
    exact .inr ⟨g, cur, rfl, hB, hh, hn, hm, hs, ht⟩
theorem OwnE.mk' {B0 : Nat} {w : World} {g cap : Nat} {cur : Array Value} {l : List En} (hB : B0 ≤ g) (h1 : w.heap[g]? = some (.cells cur 37 (0, 0))) (h2 : l.length ≤ cap) (h3 : cap ≤ maxLen) (h4 : cur.size = cap * 7) (h5 : cur.toList.take (l.length * 7) = ents l) (h6 : l.length ≤ 1000) :
    OwnE B0 w (some ⟨g, 0, none⟩) cap l := ⟨⟨ents_length l, .inr ⟨g, cap, cur, rfl, hB, h1, h2, h3, h4, h5⟩⟩, h6⟩
theorem OwnE.but {B0 : Nat} {w w' : World} {a : Option Addr} {cap : Nat} {l : List En} (h : OwnE B0 w a cap l) {q : List Nat} (hb : But q w w') (hq : ∀ g, a = some ⟨g, 0, none⟩ → g ∉ q) : OwnE B0 w' a cap l := by
  rcases h.ways with ⟨rfl, rfl, rfl⟩ | ⟨g, cur, rfl, hB, h1, h2, h3, h4, h5⟩
  · exact OwnE.nil B0 w'
  · exact OwnE.mk' hB (by rw [hb.block g (lt_of_heap h1) (hq g rfl)]; exact h1) h2 h3 h4 h5 h.2
theorem OwnE.lt {B0 : Nat} {w : World} {a : Option Addr} {cap : Nat} {l : List En} (h : OwnE B0 w a cap l) {g o : Nat} {z} (ha : a = some ⟨g, o, z⟩) : B0 ≤ g ∧ g < w.heap.size ∧ o = 0 := by
  rcases h.ways with ⟨rfl, rfl, rfl⟩ | ⟨g', cur, rfl, hB, h1, h2, h3, h4, h5⟩
  · cases ha
  · injection ha with ha
    injection ha with e1 e2 e3
    subst e1
    exact ⟨hB, lt_of_heap h1, e2.symm⟩
/-- the cells of an entry in a row -/
structure EAt (w : World) (g o : Nat) (x : En) : Prop where
  c0 : w.cell? ⟨g, o, none⟩ = some (.int .i64 x.b)
  c1 : w.cell? ⟨g, o + 1, none⟩ = some (.int .i64 x.ep)
  c2 : w.cell? ⟨g, o + 2, none⟩ = some (.int .i64 x.sq)
  c3 : w.cell? ⟨g, o + 3, none⟩ = some (.string x.data)
  c4 : w.cell? ⟨g, o + 4, none⟩ = some (.bool x.dirty)
  c5 : w.cell? ⟨g, o + 5, none⟩ = some (.int .i64 x.cl)
  c6 : w.cell? ⟨g, o + 6, none⟩ = some (.int .i64 x.n)
theorem EAt.but {w w' : World} {g o : Nat} {x : En} (h : EAt w g o x) {q : List Nat} (hb : But q w w') (hn : g ∉ q) : EAt w' g o x := by
  have hl := World.block_lt_of_cell? w _ h.c0
  exact ⟨by rw [hb.cell hl hn]; exact h.c0, by rw [hb.cell hl hn]; exact h.c1, by rw [hb.cell hl hn]; exact h.c2, by rw [hb.cell hl hn]; exact h.c3, by rw [hb.cell hl hn]; exact h.c4, by rw [hb.cell hl hn]; exact h.c5, by rw [hb.cell hl hn]; exact h.c6⟩
theorem OwnE.cell {B0 : Nat} {w : World} {a : Option Addr} {cap : Nat} {l : List En} (h : OwnE B0 w a cap l) {i : Nat} {x : En} (hr : l[i]? = some x) :
    ∃ g, a = some ⟨g, 0, none⟩ ∧ B0 ≤ g ∧ g < w.heap.size ∧ EAt w g (i * 7) x := by
  have hi : i < l.length := (List.getElem?_eq_some_iff.1 hr).1
  rcases h.ways with ⟨rfl, rfl, rfl⟩ | ⟨g, cur, rfl, hB, h1, h2, h3, h4, h5⟩
  · simp at hi
  · have key : ∀ j v, j < 7 → x.cells.toList[j]? = some v → w.cell? ⟨g, i * 7 + j, none⟩ = some v := fun j v hj hv => by
      have k := ents_get hr j v hv
      rw [← h5, List.getElem?_take, if_pos (by omega), Array.getElem?_toList] at k
      simp only [World.cell?, h1]
      simpa using k
    exact ⟨g, rfl, hB, lt_of_heap h1, key 0 _ (by omega) rfl, key 1 _ (by omega) rfl, key 2 _ (by omega) rfl, key 3 _ (by omega) rfl, key 4 _ (by omega) rfl, key 5 _ (by omega) rfl, key 6 _ (by omega) rfl⟩

theorem wpList_append_ent (w : World) {ops : Array Oper} {rest : List Oper} {o : Oper} {act : Act} {Q : Exit → Act → World → Prop} (hgd : o.guard = none) (s x : Operand)
    (ho : o.op = .call { callee := .builtin .append, args := #[s, x], argTypes := #[28, 28] })
    (B0 : Nat) (a : Option Addr) (k cap : Nat) (l : List En) (hs : act.eval s = .slice a k cap) (hk : l.length = k) (hown : OwnE B0 w a cap l) (hB : B0 ≤ w.heap.size)
    (b c : Nat) (r : En) (hx : act.eval x = .slice (some ⟨b, 0, none⟩) 1 c) (hr : EAt w b 0 r) (hsum : k + 1 ≤ 1000)
    (h : ∀ a' cap' w', OwnE B0 w' a' cap' (l ++ [r]) → Below B0 w w' → wpList Tryz.prog ops Q rest (act.put o.dst (.slice a' (k + 1) cap')) w') : wpList Tryz.prog ops Q (o :: rest) act w := by
  refine wpList_plain hgd fun K hK => ?_
  subst hk
  obtain ⟨i0, hi0, hz0, hz1, hz2⟩ := info_parts ent_info
  obtain ⟨v', w', hrun, h5, h6, _, h7⟩ := run_append_own_at (P := Tryz.prog) (w := w) B0 28 o.type 37 i0 _ 7 64 Tryz.underlying28 hi0 hz0 hz1 hz2 rfl (by omega) _ l.length (ents l) hown.1 ⟨b, 0, none⟩ 1 c r.cells.toList
    rfl (fun j u hu => by
      have hj : j < 7 := by have := (List.getElem?_eq_some_iff.1 hu).1; simpa [En.cells] using this
      obtain ⟨c0, c1, c2, c3, c4, c5, c6⟩ := hr
      match j, hj, hu with
      | 0, _, hu => simp [En.cells] at hu; subst hu; simpa [Addr.add] using c0
      | 1, _, hu => simp [En.cells] at hu; subst hu; simpa [Addr.add] using c1
      | 2, _, hu => simp [En.cells] at hu; subst hu; simpa [Addr.add] using c2
      | 3, _, hu => simp [En.cells] at hu; subst hu; simpa [Addr.add] using c3
      | 4, _, hu => simp [En.cells] at hu; subst hu; simpa [Addr.add] using c4
      | 5, _, hu => simp [En.cells] at hu; subst hu; simpa [Addr.add] using c5
      | 6, _, hu => simp [En.cells] at hu; subst hu; simpa [Addr.add] using c6) (by intro u hu; simp [En.cells] at hu; rcases hu with rfl | rfl | rfl | rfl | rfl | rfl | rfl <;> rfl) (by simp only [maxLen]; omega) (by omega) hB
  obtain ⟨a', cap', rfl⟩ : ∃ a' cap', v' = .slice a' (l.length + 1) cap' := by
    rcases h5.2 with ⟨rfl, h0⟩ | ⟨g, c', cur, rfl, _⟩
    · omega
    · exact ⟨_, _, rfl⟩
  have hl : (l ++ [r]).length = l.length + 1 := by simp
  have hents : ents (l ++ [r]) = ents l ++ r.cells.toList := by rw [ents_append]; simp [ents]
  unfold Oper.wp execOp
  simp only [ho, resolve, invoke, builtin, Sem.run_bind, Sem.run_pure, Result.andThen_ok, List.map_toArray, List.map_cons, List.map_nil, hs, hx, hrun]
  refine hK _ _ (h a' cap' w' ⟨by rw [hl, hents]; exact h5, by rw [hl]; exact hsum⟩ ?_)
  have hbu := (But.refl [] w)
  rcases hown.ways with ⟨rfl, rfl, rfl⟩ | ⟨g, cur, rfl, hBg, hh, _⟩
  · exact (((But.refl [] w).grown h6 (fun q hq => by simp [Value.ownBlock] at hq)).to_below (by simp) hB)
  · exact (((But.refl [g] w).grown h6 (fun q hq => by simp [Value.ownBlock] at hq; subst hq; exact .inl (by simp))).to_below (by simp; exact hBg) hB)

theorem field_laid (x : La) (w : World) : (Instr.field 108 x.val 0).run Tryz.prog w = .ok x.e.val w := by kernel_rfl
theorem wpList_field_laid (w : World) {ops : Array Oper} {rest : List Oper} {o : Oper} {act : Act} {Q : Exit → Act → World → Prop} (hgd : o.guard = none) (x : Operand) (ho : o.op = .field 108 x 0) (y : La) (hx : act.eval x = y.val) (v : Value) (hv : y.e.val = v)
    (h : wpList Tryz.prog ops Q rest (act.put o.dst v) w) : wpList Tryz.prog ops Q (o :: rest) act w := by
  refine wpList_plain hgd fun K hK => ?_
  unfold Oper.wp
  simp [execOp, ho, hx, field_laid, hv, Result.andThen]
  exact hK _ _ h

set_option maxHeartbeats 2000000 in
/-- All: the entries, by block, in a row of the call's own -/
theorem all_cs (w : World) (h : Cs w B G V K) : Calls Tryz.prog 20 #[.pointer (some ⟨B.qB, 0, none⟩)] w fun e w' => ∃ a cap, e = .returned (.slice a (num G.nb V.e) cap) ∧ OwnE w.heap.size w' a cap (allV G.nb V.e) ∧ Below w.heap.size w w' := by
  have hnum : num G.nb V.e ≤ 32 := Nat.le_trans (cnt_le _ _) h.ok.nb
  obtain ⟨s, hc, hv, _, _, _⟩ := h
  obtain ⟨N, D, hown, hr⟩ := hc.mp
  have hkeys := hc.hd.keys
  have hsz := size_num hown hr hkeys
  have hlen := allV_len G.nb V.e
  have hall := keysQ_all G.nb s.E
  have hkl := keysQ_len G.nb s.E
  rw [hv] at hsz hall hkl
  have HS : Hid (Calls Tryz.prog 46 #[.func (.func 67) #[] #[.pointer (some ⟨w.heap.size, 0, none⟩)]] (w.alloc (.cells #[.map (some B.mE)] 90)) fun e w' => ∃ aK cK, e = .returned (.slice aK (num G.nb V.e) cK) ∧ C.Row w' aK (num G.nb V.e) cK (C.i64s (keysQ G.nb s.E)) ∧ (∀ g o z, aK = some ⟨g, o, z⟩ → w.heap.size ≤ g) ∧ Below w.heap.size w w') := Lib.hid (by
    refine (sortedB_q w B.mE N D hown (by omega)).mono ?_
    rintro e w' ⟨v, ss, rfl, hp, hrow, hb⟩
    have e2 : ss.mergeSort (fun x y => decide (x ≤ y)) = keysQ G.nb s.E := (mergeSort_of_perm_i hp).trans (keysQ_sorted hown hr hkeys)
    have e3 : ss.length = num G.nb V.e := by rw [← hkl, ← e2, List.length_mergeSort]
    rw [e2, e3] at hrow
    have hl : (C.i64s (keysQ G.nb s.E)).length = num G.nb V.e := by rw [C.i64s_length, hkl]
    rcases hrow.2 with ⟨rfl, h0⟩ | ⟨g, c, cur, rfl, hB, hh, hn, hm, hs, ht⟩
    · rw [h0]
      refine ⟨none, 0, rfl, ⟨by rw [hl, h0], Nat.le_refl _, by simp [maxLen], .inl (List.eq_nil_of_length_eq_zero (by rw [hl, h0]))⟩, fun g o z hz => (by cases hz), hb⟩
    · refine ⟨some ⟨g, 0, none⟩, c, rfl, (C.own_row (e := 3) (B := w.heap.size) ⟨⟨by rw [Nat.mul_one]; exact hl, .inr ⟨g, c, cur, rfl, hB, hh, hn, hm, hs, ht⟩⟩, hl, by omega⟩).1, fun g' o z hz => ?_, hb⟩
      injection hz with hz
      injection hz with e1
      omega)
  have HC := Lib.hid hc
  have HM : Hid (∀ i x, (keysQ G.nb s.E)[i]? = some x → ∃ y : La, s.E x = some y ∧ (allV G.nb V.e)[i]? = some y.e ∧ 0 ≤ x ∧ x ≤ 1000) := Lib.hid (fun i x hi => by
    have hx := (mem_keysQ hkeys x).1 (List.mem_of_getElem? hi)
    obtain ⟨y, hy⟩ := Option.isSome_iff_exists.1 hx
    have hb := hkeys x y hy
    have hnb := hc.hd.nb
    refine ⟨y, hy, ?_, by omega, by omega⟩
    rw [← hall, List.getElem?_map, hi]
    simp [entOf, hy])
  have p3 := hc.qc.p3
  have HLen := Lib.hid hlen
  have hnI : (num G.nb V.e : Int) ≤ 32 := by omega
  have hn0 : (0 : Int) ≤ (num G.nb V.e : Int) := by omega
  have Hkl := Lib.hid hkl
  have Hn := Lib.hid hnum
  generalize num G.nb V.e = m at *
  generalize allV G.nb V.e = all at *
  generalize keysQ G.nb s.E = ks at *
  clear hc hv hown hr hkeys hsz hall hlen hkl hnum
  go_enter Tryz.func20, Tryz.ntmps20
  go_wp2_with (first
    | (go_at_call 47; with_reducible refine (keysB_q _ _).mono ?_; rintro e w' ⟨rfl, rfl⟩)
    | (go_at_call 46; with_reducible refine HS.out.mono ?_; rintro e w1 ⟨aK, cK, rfl, hrow, hgK, hb1⟩
       have HR := Lib.hid (And.intro hrow hgK)
       have HB1 := Lib.hid hb1
       clear hrow hgK hb1))
  go_loopw [3, 13] (fun sl i wr => ∃ (k : Nat) (a : Option Addr) (cap : Nat), k ≤ m ∧ sl = .slice a k cap ∧ i = .int .i64 k ∧ OwnE w1.heap.size wr a cap (all.take k) ∧ Below w1.heap.size w1 wr) (fun _ i _ => m - (RowKit.intOf i).toNat)
  case atStart => exact ⟨0, none, 0, by omega, rfl, rfl, by simpa using OwnE.nil w1.heap.size w1, Below.refl _ _⟩
  case round =>
    obtain ⟨k, a, cap, hk, rfl, rfl, hown, hb⟩ := hrel
    have HO := Lib.hid hown
    have HB := Lib.hid hb
    have HBw : Hid (Below w.heap.size w wr) := Lib.hid (HB1.out.trans (hb.mono HB1.out.size))
    clear hown hb p3
    by_cases hlt : k < m
    · have hltI : (k : Int) < (m : Int) := by omega
      obtain ⟨gK, oK, x, hg1, hg2, hg3, hg4⟩ := C.row_i64 HR.out.1 k hlt
      subst hg1
      obtain ⟨y, hy1, hy2, hy3, hy4⟩ := HM.out k x hg3
      have hx : wr.cell? ⟨gK, oK + k, none⟩ = some (.int .i64 x) := by rw [HB.out.cell (p := ⟨gK, oK + k, none⟩) hg2]; exact hg4
      have hcr := HC.out.below HBw.out
      have q3 := hcr.qc.p3
      have hl := (mapq_look hcr.mp (i := x) (by omega) (by omega)).2
      rw [hy1] at hl
      obtain ⟨⟨xb, xp, xq, xd, xy, xc, xn⟩, xpos⟩ := y
      simp only [Option.getD_some, La.val] at hl
      have hbn := (Below.refl wr.heap.size wr).alloc (Nat.le_refl _) (.cells #[.int .i64 xb, .int .i64 xp, .int .i64 xq, .string xd, .bool xy, .int .i64 xc, .int .i64 xn] 37)
      have HO2 : Hid (OwnE w1.heap.size (wr.alloc (.cells #[.int .i64 xb, .int .i64 xp, .int .i64 xq, .string xd, .bool xy, .int .i64 xc, .int .i64 xn] 37)) a cap (all.take k)) := Lib.hid (HO.out.but (But.of_below hbn) (by simp))
      have HE2 : Hid (EAt (wr.alloc (.cells #[.int .i64 xb, .int .i64 xp, .int .i64 xq, .string xd, .bool xy, .int .i64 xc, .int .i64 xn] 37)) wr.heap.size 0 ⟨xb, xp, xq, xd, xy, xc, xn⟩) := Lib.hid (by
        refine ⟨?_, ?_, ?_, ?_, ?_, ?_, ?_⟩ <;> (rw [World.cell?_alloc_mark]; rfl))
      have HBa : Hid (Below w1.heap.size w1 (wr.alloc (.cells #[.int .i64 xb, .int .i64 xp, .int .i64 xq, .string xd, .bool xy, .int .i64 xc, .int .i64 xn] 37))) := Lib.hid (HB.out.alloc HB.out.size _)
      have HTk : Hid (all.take (k + 1) = all.take k ++ [⟨xb, xp, xq, xd, xy, xc, xn⟩]) := Lib.hid (by rw [List.take_add_one, hy2]; rfl)
      have HLk : Hid ((all.take k).length = k ∧ k < m) := Lib.hid ⟨by rw [List.length_take, HLen.out]; omega, hlt⟩
      clear hg2 hg3 hg4 hy1 hy2 hy3 hy4 hcr hbn hlt hk
      go_wp2_with (first
        | (refine wpList_field_laid _ rfl (.tmp 23) rfl ⟨⟨xb, xp, xq, xd, xy, xc, xn⟩, xpos⟩ rfl (.agg #[.int .i64 xb, .int .i64 xp, .int .i64 xq, .string xd, .bool xy, .int .i64 xc, .int .i64 xn]) rfl ?_)
        | (at_builtin
           refine wpList_append_ent _ rfl (.tmp 17) (.tmp 25) rfl w1.heap.size a k cap _ rfl HLk.out.1 HO2.out HBa.out.size _ 1 _ rfl HE2.out (by have := HLk.out.2; have := Hn.out; omega) ?_
           intro a2 cap2 w2 hown2 hb2
           have HO3 := Lib.hid hown2
           have HB3 : Hid (Below w1.heap.size w1 w2) := Lib.hid (HBa.out.trans hb2)
           clear hown2 hb2))
      go_roundw
      case rel => exact ⟨k + 1, a2, cap2, by have := HLk.out.2; omega, rfl, by go_num, by rw [HTk.out]; exact HO3.out, HB3.out⟩
      case measure => have := HLk.out.2; simp [RowKit.intOf]; omega
    · obtain rfl : k = m := by omega
      have hltI : ¬ (k : Int) < (k : Int) := by omega
      have hta : all.take k = all := List.take_of_length_le (by rw [HLen.out]; exact Nat.le_refl _)
      rw [hta] at HO
      have HF : Hid (OwnE w.heap.size wr a cap all) := Lib.hid (by
        have h1 := HO.out
        have h2 := HB1.out.size
        rcases h1.ways with ⟨rfl, rfl, h3⟩ | ⟨g, cur, rfl, hB, r1, r2, r3, r4, r5⟩
        · rw [h3]; exact OwnE.nil _ _
        · exact OwnE.mk' (by omega) r1 r2 r3 r4 r5 h1.2)
      clear hlt hk hta
      go_wp2_with fail
      go_ret
      exact ⟨a, cap, rfl, HF.out, HBw.out⟩
end Q
end Go.Proofs.YtmcalgnpinolmaaGreat
namespace Go.Proofs.YtmcalgnpinolmaaGreat
open Go.RowKit Go.Maps
set_option linter.unusedVariables false
set_option linter.unusedSimpArgs false
set_option maxRecDepth 20000
namespace Q
variable {B : Bk} {G : Gm} {V : Vi} {K : Int}

theorem low1_q (w : World) (x : En) : Calls Tryz.prog 74 #[x.val] w fun e w' => e = .returned (.bool x.dirty) ∧ Below w.heap.size w w' := by
  unfold En.val
  go_enter Tryz.func74, Tryz.ntmps74
  go_wp2_with fail
  go_ret
  exact ⟨rfl, (Below.refl _ _).alloc (Nat.le_refl _) _⟩

theorem low2_q (w : World) (x y : En) : Calls Tryz.prog 76 #[x.val, y.val] w fun e w' => e = .returned (.int .i64 (ord x.ep x.sq y.ep y.sq)) ∧ Below w.heap.size w w' := by
  unfold En.val
  go_enter Tryz.func76, Tryz.ntmps76
  go_wp2_with (go_at_call 49; refine (order_q _ _ _ _ _).mono ?_; rintro e w2 ⟨rfl, hb⟩)
  go_ret
  exact ⟨rfl, (((Below.refl _ w).alloc (Nat.le_refl _) _).alloc (by simp) _).trans (hb.mono (by simp; omega))⟩

/-- the first dirty one's place; as many as there are, if none is -/
def fdx : List En → Nat
  | [] => 0
  | x :: l => if x.dirty then 0 else fdx l + 1
def idxR (l : List En) : Int := if fdx l < l.length then (fdx l : Int) else -1
theorem fdx_le (l : List En) : fdx l ≤ l.length := by
  induction l with
  | nil => exact Nat.le_refl _
  | cons x l ih => unfold fdx; split <;> simp <;> omega
theorem fdx_spec (l : List En) : (∀ i x, i < fdx l → l[i]? = some x → x.dirty = false) ∧ (∀ x, l[fdx l]? = some x → x.dirty = true) := by
  induction l with
  | nil => exact ⟨fun i x h => by simp [fdx] at h, fun x h => by simp [fdx] at h⟩
  | cons y l ih =>
    unfold fdx
    by_cases hy : y.dirty = true
    · rw [if_pos hy]
      exact ⟨fun i x h => by omega, fun x h => by simp at h; subst h; exact hy⟩
    · rw [if_neg hy]
      refine ⟨fun i x h hx => ?_, fun x hx => ?_⟩
      · cases i with
        | zero => simp at hx; subst hx; simpa using hy
        | succ i => exact ih.1 i x (by omega) (by simpa using hx)
      · exact ih.2 x (by simpa using hx)

set_option maxHeartbeats 1000000 in
theorem index_q (w : World) (B0 : Nat) (a : Option Addr) (cap : Nat) (l : List En) (h : OwnE B0 w a cap l) :
    Calls Tryz.prog 98 #[.slice a l.length cap, .func (.func 74) #[] #[]] w fun e w' => e = .returned (.int .i64 (idxR l)) ∧ Below w.heap.size w w' := by
  have hl6 := h.2
  have hlI : (l.length : Int) ≤ 1000 := by omega
  have hl0 : (0 : Int) ≤ (l.length : Int) := by omega
  have H := Lib.hid h
  have HF := Lib.hid (fdx_spec l)
  have HL := Lib.hid (fdx_le l)
  clear h hl6
  go_enter Tryz.func98, Tryz.ntmps98
  go_wp2_with fail
  go_loopw [8] (fun i wr => ∃ (k : Nat), k ≤ fdx l ∧ i = .int .i64 k ∧ Below w.heap.size w wr) (fun i _ => l.length - (RowKit.intOf i).toNat)
  case atStart => exact ⟨0, by omega, rfl, Below.refl _ _⟩
  case round =>
    obtain ⟨k, hk, rfl, hb⟩ := hrel
    have HB := Lib.hid hb
    have HK := Lib.hid hk
    clear hb hk
    by_cases hlt : k < l.length
    · have hltI : (k : Int) < (l.length : Int) := by omega
      obtain ⟨x, hx⟩ : ∃ x, l[k]? = some x := ⟨_, List.getElem?_eq_getElem hlt⟩
      obtain ⟨g, hg1, hg2, hg3, hg4⟩ := H.out.cell hx
      subst hg1
      have hc := hg4.but (But.of_below HB.out) (by simp)
      obtain ⟨c0, c1, c2, c3, c4, c5, c6⟩ := hc
      have HX := Lib.hid hx
      have HLt := Lib.hid hlt
      obtain ⟨xb, xp, xq, xd, xy, xc, xn⟩ := x
      simp only at c0 c1 c2 c3 c4 c5 c6
      have H1 := Lib.hid (fun w' => low1_q w' ⟨xb, xp, xq, xd, xy, xc, xn⟩)
      unfold En.val at H1
      simp only at H1
      clear hg2 hg3 hg4 hx hlt
      cases hy : xy with
      | true =>
        subst hy
        have hkf : k = fdx l := by
          by_cases hkk : k < fdx l
          · have := HF.out.1 k _ hkk HX.out; simp at this
          · have := HK.out; omega
        have HKf := Lib.hid hkf
        clear hkf
        go_wp2_with (go_at_call 74; with_reducible refine (H1.out _).mono ?_; rintro e w2 ⟨rfl, hb2⟩; have HB2 := Lib.hid hb2; clear hb2)
        go_ret
        refine ⟨?_, HB.out.trans (HB2.out.mono HB.out.size)⟩
        have : idxR l = (k : Int) := by unfold idxR; rw [← HKf.out, if_pos HLt.out]
        rw [this]
        rfl
      | false =>
        subst hy
        have hkf : k < fdx l := by
          by_cases hkk : k = fdx l
          · have := HF.out.2 _ (by rw [← hkk]; exact HX.out); simp at this
          · have := HK.out; omega
        have HKf := Lib.hid hkf
        clear hkf
        go_wp2_with (go_at_call 74; with_reducible refine (H1.out _).mono ?_; rintro e w2 ⟨rfl, hb2⟩; have HB2 := Lib.hid hb2; clear hb2)
        go_roundw
        case rel => exact ⟨k + 1, by have := HKf.out; omega, by go_num, HB.out.trans (HB2.out.mono HB.out.size)⟩
        case measure => have := HLt.out; simp [RowKit.intOf]; omega
    · have hltI : ¬ (k : Int) < (l.length : Int) := by omega
      have Hlt := Lib.hid hlt
      clear hlt
      go_wp2_with fail
      go_ret
      refine ⟨?_, HB.out⟩
      have : idxR l = -1 := if_neg (by have := HK.out; have := Hlt.out; omega)
      rw [this]
      rfl

/-! a row of entries, written -/
theorem take_splice {α : Type} (cur m : List α) (n i k : Nat) (hm : m.length = k) (hik : i + k ≤ n) (hn : n ≤ cur.length) : (cur.take i ++ m ++ cur.drop (i + k)).take n = (cur.take n).take i ++ m ++ (cur.take n).drop (i + k) := by
  have hl : (cur.take i ++ m).length = i + k := by rw [List.length_append, List.length_take, hm, Nat.min_eq_left (by omega)]
  rw [List.take_take, Nat.min_eq_left (by omega), List.drop_take, List.take_append, hl, List.take_of_length_le (by omega)]
theorem ents_set {l : List En} {i : Nat} (hi : i < l.length) (x : En) : ents (l.set i x) = (ents l).take (i * 7) ++ x.cells.toList ++ (ents l).drop (i * 7 + 7) := by
  have hs : l.set i x = l.take i ++ x :: l.drop (i + 1) := List.set_eq_take_append_cons_drop .. |>.trans (by rw [if_pos hi])
  have hl : l = l.take i ++ l.drop i := (List.take_append_drop i l).symm
  have ht : (ents l).take (i * 7) = ents (l.take i) := by
    conv => lhs; rw [hl, ents_append]
    rw [List.take_append_of_le_length (by rw [ents_length, List.length_take]; omega), List.take_of_length_le (by rw [ents_length, List.length_take]; omega)]
  have hl2 : l = l.take (i + 1) ++ l.drop (i + 1) := (List.take_append_drop (i + 1) l).symm
  have hd : (ents l).drop (i * 7 + 7) = ents (l.drop (i + 1)) := by
    conv => lhs; rw [hl2, ents_append]
    rw [List.drop_append_of_le_length (by rw [ents_length, List.length_take]; omega), List.drop_of_length_le (by rw [ents_length, List.length_take]; omega), List.nil_append]
  rw [hs, ents_append, ht, hd, List.append_assoc]
  rfl
theorem OwnE.store {B0 : Nat} {w : World} {g cap : Nat} {l : List En} (h : OwnE B0 w (some ⟨g, 0, none⟩) cap l) {i : Nat} (hi : i < l.length) (x : En) : OwnE B0 (w.setCells g (i * 7) x.cells.toList) (some ⟨g, 0, none⟩) cap (l.set i x) ∧ w.there g (i * 7) 7 := by
  rcases h.ways with ⟨h0, _, _⟩ | ⟨g', cur, hg, hB, h1, h2, h3, h4, h5⟩
  · cases h0
  · injection hg with hg
    injection hg with e1
    subst e1
    have h7 : x.cells.toList.length = 7 := rfl
    have hle : i * 7 + 7 ≤ cur.size := by rw [h4]; omega
    obtain ⟨cur', g1, g2, g3⟩ := obj_setCells x.cells.toList (i * 7) w cur h1 (by rw [h7]; exact hle)
    refine ⟨OwnE.mk' hB g1 (by rw [List.length_set]; exact h2) h3 (by rw [g2, h4]) ?_ (by rw [List.length_set]; exact h.2), fun j hj => ⟨?_, ?_⟩⟩
    · have hc : cur.toList.length = cap * 7 := by rw [Array.length_toList, h4]
      rw [List.length_set, g3, h7, take_splice _ _ _ _ 7 h7 (by omega) (by omega), h5]
      exact (ents_set hi x).symm
    · simp only [World.cell?, h1]
      rw [Array.getElem?_eq_getElem (by omega)]; rfl
    · simp [World.frozen?, h1]
/-- a beginning of a row, whatever lies behind -/
theorem OwnE.take {B0 : Nat} {w : World} {g cap : Nat} {l : List En} (h : OwnE B0 w (some ⟨g, 0, none⟩) cap l) {k : Nat} (hk : k ≤ l.length) (vs : List Value) (hv : k * 7 + vs.length ≤ cap * 7) : OwnE B0 (w.setCells g (k * 7) vs) (some ⟨g, 0, none⟩) cap (l.take k) := by
  rcases h.ways with ⟨h0, _, _⟩ | ⟨g', cur, hg, hB, h1, h2, h3, h4, h5⟩
  · cases h0
  · injection hg with hg
    injection hg with e1
    subst e1
    obtain ⟨cur', g1, g2, g3⟩ := obj_setCells vs (k * 7) w cur h1 (by omega)
    have hlt : (l.take k).length = k := by rw [List.length_take]; omega
    refine OwnE.mk' hB g1 (by omega) h3 (by rw [g2, h4]) ?_ (by rw [hlt]; have := h.2; omega)
    have hl : l = l.take k ++ l.drop k := (List.take_append_drop k l).symm
    have ht : (ents l).take (k * 7) = ents (l.take k) := by
      conv => lhs; rw [hl, ents_append]
      rw [List.take_append_of_le_length (by rw [ents_length, hlt]; exact Nat.le_refl _), List.take_of_length_le (by rw [ents_length, hlt]; exact Nat.le_refl _)]
    have hc : cur.toList.length = cap * 7 := by rw [Array.length_toList, h4]
    rw [hlt, g3, List.append_assoc, List.take_append_of_le_length (by rw [List.length_take]; omega), List.take_take, Nat.min_self, ← ht, ← h5, List.take_take, Nat.min_eq_left (by omega)]

/-! DeleteFunc -/
def clean1 (x : En) : Bool := !x.dirty
theorem zeroE_run (w : World) : (zeroValue 37).run Tryz.prog w = .ok zeroE.val w := by
  obtain ⟨i0, hi0, hz0, hz1, hz2⟩ := info_parts ent_info
  simp [zeroValue, typeInfo, hi0, hz0]
def zc (k : Nat) : List Value := (Builtin.zeroCells zeroE.cells k).toList
theorem zc_len (k : Nat) : (zc k).length = k * 7 := by simp [zc, Builtin.zeroCells, En.cells]
theorem zc_one (k : Nat) : ∀ u ∈ zc k, u.oneCell' = true := by
  intro u hu
  obtain ⟨i, hi⟩ := List.mem_iff_getElem?.1 hu
  have hlt : i < k * 7 := by have := (List.getElem?_eq_some_iff.1 hi).1; rwa [zc_len] at this
  have e : (zc k)[i]? = some (zeroE.cells[i % 7]!) := by simp [zc, Builtin.zeroCells, hlt, En.cells]
  rw [e] at hi
  injection hi with hi
  subst hi
  have : i % 7 < 7 := Nat.mod_lt _ (by decide)
  generalize i % 7 = r at *
  match r, this with
  | 0, _ => rfl
  | 1, _ => rfl
  | 2, _ => rfl
  | 3, _ => rfl
  | 4, _ => rfl
  | 5, _ => rfl
  | 6, _ => rfl
theorem clear_ents (w : World) (ty : TypeId) (g o k c : Nat) (hk : 0 < k) (hc : ∀ j, j < k * 7 → (w.cell? ⟨g, o + j, none⟩).isSome = true) (hf : ∀ j, j < k * 7 → w.frozen? ⟨g, o + j, none⟩ = false) :
    (Builtin.clear_ #[28] ty #[.slice (some ⟨g, o, none⟩) k c]).run Tryz.prog w = .ok (.tuple #[]) (w.setCells g o (zc k)) := by
  have hst := run_storeCells_cells (P := Tryz.prog) g o (zc k) 0 w (by simpa [zc_len] using hc) (by simpa [zc_len] using hf) (zc_one k)
  simp only [Nat.add_zero] at hst
  have hz : (Builtin.zeroCells zeroE.cells k).toList = zc k := rfl
  obtain ⟨m, rfl⟩ : ∃ m, k = m + 1 := ⟨k - 1, by omega⟩
  have hcl : zeroE.val.cells = zeroE.cells := rfl
  simp [Builtin.clear_, run_underlying Tryz.underlying28, zeroE_run]
  change ((Sem.run Tryz.prog (storeCells ⟨g, o, none⟩ (zc (m + 1))) w).andThen _) = _
  rw [hst]
  rfl

theorem filter_clean {l : List En} (h : ∀ (i : Nat) (x : En), l[i]? = some x → x.dirty = false) : l.filter clean1 = l := by
  refine List.filter_eq_self.2 fun x hx => ?_
  obtain ⟨i, hi⟩ := List.mem_iff_getElem?.1 hx
  simp [clean1, h i x hi]

/-- while the clean ones are moved to the front -/
structure Del (w0 : World) (B0 g cap : Nat) (l : List En) (i j : Nat) (w : World) (l' : List En) : Prop where
  ow : OwnE B0 w (some ⟨g, 0, none⟩) cap l'
  ln : l'.length = l.length
  tk : l'.take i = (l.take j).filter clean1
  dr : l'.drop j = l.drop j
  ij : i < j
  jn : j ≤ l.length
  bu : But [g] w0 w
theorem Del.at {w0 w : World} {B0 g cap : Nat} {l l' : List En} {i j : Nat} (h : Del w0 B0 g cap l i j w l') (hj : j < l.length) : l'[j]? = l[j]? := by
  have := congrArg (fun m => m[0]?) h.dr
  simpa using this
theorem Del.keep {w0 w w' : World} {B0 g cap : Nat} {l l' : List En} {i j : Nat} (h : Del w0 B0 g cap l i j w l') {x : En} (hx : l[j]? = some x) (hd : x.dirty = false) (hb : Below w.heap.size w w') :
    Del w0 B0 g cap l (i + 1) (j + 1) (w'.setCells g (i * 7) x.cells.toList) (l'.set i x) ∧ w'.there g (i * 7) 7 := by
  have hjn : j < l.length := (List.getElem?_eq_some_iff.1 hx).1
  have hij := h.ij
  have o2 := h.ow.but (But.of_below hb) (by simp)
  have hil : i < l'.length := by rw [h.ln]; omega
  obtain ⟨s1, s2⟩ := o2.store hil x
  refine ⟨⟨s1, by rw [List.length_set]; exact h.ln, ?_, ?_, by omega, by omega, (h.bu.below hb h.bu.size).sets g _ _ (.inl (by simp))⟩, s2⟩
  · rw [List.take_add_one (l := l), hx, List.filter_append, ← h.tk, List.take_add_one, List.getElem?_set_self hil, List.take_set_of_le (Nat.le_refl _)]
    simp [clean1, hd]
  · rw [List.drop_set_of_lt (by omega)]
    have := congrArg (List.drop 1) h.dr
    simpa [List.drop_drop, Nat.add_comm] using this
theorem Del.skip {w0 w w' : World} {B0 g cap : Nat} {l l' : List En} {i j : Nat} (h : Del w0 B0 g cap l i j w l') {x : En} (hx : l[j]? = some x) (hd : x.dirty = true) (hb : Below w.heap.size w w') : Del w0 B0 g cap l i (j + 1) w' l' := by
  have hjn : j < l.length := (List.getElem?_eq_some_iff.1 hx).1
  refine ⟨h.ow.but (But.of_below hb) (by simp), h.ln, ?_, ?_, by have := h.ij; omega, by omega, h.bu.below hb h.bu.size⟩
  · rw [List.take_add_one, hx, List.filter_append, ← h.tk]
    simp [clean1, hd]
  · have := congrArg (List.drop 1) h.dr
    simpa [List.drop_drop, Nat.add_comm] using this

theorem there7 {w : World} {g o : Nat} (h : w.there g o 7) : ∃ v0 v1 v2 v3 v4 v5 v6, (w.cell? ⟨g, o, none⟩ = some v0 ∧ w.cell? ⟨g, o + 1, none⟩ = some v1 ∧ w.cell? ⟨g, o + 2, none⟩ = some v2 ∧ w.cell? ⟨g, o + 3, none⟩ = some v3 ∧ w.cell? ⟨g, o + 4, none⟩ = some v4 ∧ w.cell? ⟨g, o + 5, none⟩ = some v5 ∧ w.cell? ⟨g, o + 6, none⟩ = some v6) ∧
    (w.frozen? ⟨g, o, none⟩ = false ∧ w.frozen? ⟨g, o + 1, none⟩ = false ∧ w.frozen? ⟨g, o + 2, none⟩ = false ∧ w.frozen? ⟨g, o + 3, none⟩ = false ∧ w.frozen? ⟨g, o + 4, none⟩ = false ∧ w.frozen? ⟨g, o + 5, none⟩ = false ∧ w.frozen? ⟨g, o + 6, none⟩ = false) := by
  obtain ⟨v0, h0⟩ := Option.isSome_iff_exists.1 (h 0 (by omega)).1
  obtain ⟨v1, h1⟩ := Option.isSome_iff_exists.1 (h 1 (by omega)).1
  obtain ⟨v2, h2⟩ := Option.isSome_iff_exists.1 (h 2 (by omega)).1
  obtain ⟨v3, h3⟩ := Option.isSome_iff_exists.1 (h 3 (by omega)).1
  obtain ⟨v4, h4⟩ := Option.isSome_iff_exists.1 (h 4 (by omega)).1
  obtain ⟨v5, h5⟩ := Option.isSome_iff_exists.1 (h 5 (by omega)).1
  obtain ⟨v6, h6⟩ := Option.isSome_iff_exists.1 (h 6 (by omega)).1
  exact ⟨v0, v1, v2, v3, v4, v5, v6, ⟨h0, h1, h2, h3, h4, h5, h6⟩, (h 0 (by omega)).2, (h 1 (by omega)).2, (h 2 (by omega)).2, (h 3 (by omega)).2, (h 4 (by omega)).2, (h 5 (by omega)).2, (h 6 (by omega)).2⟩

set_option maxHeartbeats 4000000 in
theorem delete_q (w : World) (B0 : Nat) (a : Option Addr) (cap : Nat) (l : List En) (h : OwnE B0 w a cap l) (hB0 : B0 ≤ w.heap.size) :
    Calls Tryz.prog 73 #[.slice a l.length cap, .func (.func 74) #[] #[]] w fun e w' => e = .returned (.slice a (l.filter clean1).length cap) ∧ OwnE B0 w' a cap (l.filter clean1) ∧ Below B0 w w' := by
  have HI := Lib.hid (index_q w B0 a cap l h)
  have hf := fdx_spec l
  have hfl := fdx_le l
  by_cases hn : fdx l < l.length
  · have hidx : idxR l = (fdx l : Int) := if_pos hn
    rw [hidx] at HI
    rcases h.ways with ⟨rfl, rfl, rfl⟩ | ⟨g, cur, rfl, hB, h1, h2, h3, h4, h5⟩
    · simp at hn
    · have hdirty : ∃ x, l[fdx l]? = some x ∧ x.dirty = true := ⟨_, List.getElem?_eq_getElem hn, hf.2 _ (List.getElem?_eq_getElem hn)⟩
      obtain ⟨x0, hx0, hd0⟩ := hdirty
      have hpre : (l.take (fdx l)).filter clean1 = l.take (fdx l) := filter_clean fun i x hx => by
        rw [List.getElem?_take] at hx
        split at hx
        · rename_i hi; exact hf.1 i x hi hx
        · cases hx
      have H0 : Hid (∀ w1, Below w.heap.size w w1 → Del w B0 g cap l (fdx l) (fdx l + 1) w1 l) := Lib.hid (fun w1 hb => ⟨h.but (But.of_below hb) (by simp), rfl, by rw [List.take_add_one, hx0, List.filter_append, hpre]; simp [clean1, hd0], rfl, by omega, by omega, (But.refl _ _).below hb (Nat.le_refl _)⟩)
      have hlen := h.2
      have hlI : (l.length : Int) ≤ 1000 := by omega
      have hl0 : (0 : Int) ≤ (l.length : Int) := by omega
      have hcI : (l.length : Int) ≤ (cap : Int) := by omega
      have hfI : (fdx l : Int) ≤ 1000 := by omega
      have hf0 : (0 : Int) ≤ (fdx l : Int) := by omega
      have hfne : ((fdx l : Int) == -1) = false := by rw [beq_eq_false_iff_ne]; omega
      have HBg := Lib.hid hB
      have Hlen := Lib.hid (And.intro hlen h2)
      have HB0 := Lib.hid hB0
      generalize fdx l = f0 at *
      clear h hf hfl hn hidx hx0 hd0 hpre h1 h3 h4 h5 hB hlen
      go_enter Tryz.func73, Tryz.ntmps73
      go_wp2_with (go_at_call 98; with_reducible refine HI.out.mono ?_; rintro e w1 ⟨rfl, hb1⟩; have HD1 := Lib.hid (H0.out w1 hb1); clear hb1)
      go_loopw [5, 6] (fun si sj wr => ∃ (i j : Nat) (l' : List En), si = .int .i64 i ∧ sj = .int .i64 j ∧ Del w B0 g cap l i j wr l') (fun _ sj _ => l.length - (RowKit.intOf sj).toNat)
      case atStart => exact ⟨_, _, _, rfl, by go_num, HD1.out⟩
      case round =>
        obtain ⟨i, j, l', rfl, rfl, hdl⟩ := hrel
        have HD := Lib.hid hdl
        have hijI : (i : Int) < (j : Int) := by have := hdl.ij; omega
        have hi0 : (0 : Int) ≤ (i : Int) := by omega
        clear hdl HD1 H0 HI
        by_cases hlt : j < l.length
        · have hltI : (j : Int) < (l.length : Int) := by omega
          obtain ⟨x, hx⟩ : ∃ x, l[j]? = some x := ⟨_, List.getElem?_eq_getElem hlt⟩
          obtain ⟨g2, hg1, hg2, hg3, hg4⟩ := HD.out.ow.cell (i := j) (x := x) (by rw [HD.out.at hlt]; exact hx)
          injection hg1 with hg1
          injection hg1 with hg1
          subst hg1
          obtain ⟨c0, c1, c2, c3, c4, c5, c6⟩ := hg4
          have HX := Lib.hid hx
          have HLt := Lib.hid hlt
          have hijl : (i : Int) < (l.length : Int) := by omega
          obtain ⟨xb, xp, xq, xd, xy, xc, xn⟩ := x
          simp only at c0 c1 c2 c3 c4 c5 c6
          have H1 := Lib.hid (fun w' => low1_q w' ⟨xb, xp, xq, xd, xy, xc, xn⟩)
          unfold En.val at H1
          simp only at H1
          have hba := (Below.refl wr.heap.size wr).alloc (Nat.le_refl _) (.cells #[.int .i64 xb, .int .i64 xp, .int .i64 xq, .string xd, .bool xy, .int .i64 xc, .int .i64 xn] 37)
          have HBa := Lib.hid hba
          clear hg2 hg3 hx hlt hba
          cases hy : xy with
          | true =>
            subst hy
            go_wp2_with (go_at_call 74; with_reducible refine (H1.out _).mono ?_; rintro e w2 ⟨rfl, hb2⟩
                         have HB2 : Hid (Below wr.heap.size wr w2) := Lib.hid (HBa.out.trans (hb2.mono HBa.out.size))
                         clear hb2)
            go_roundw
            case rel => exact ⟨i, j + 1, l', rfl, by go_num, HD.out.skip HX.out rfl HB2.out⟩
            case measure => have := HLt.out; simp [RowKit.intOf]; omega
          | false =>
            subst hy
            go_wp2_with (go_at_call 74; with_reducible refine (H1.out _).mono ?_; rintro e w2 ⟨rfl, hb2⟩
                         have hB2 : Below wr.heap.size wr w2 := HBa.out.trans (hb2.mono HBa.out.size)
                         obtain ⟨hdk, hth⟩ := HD.out.keep HX.out rfl hB2
                         have HDk := Lib.hid hdk
                         have HB2c : Hid (w2.cell? ⟨wr.heap.size, 0, none⟩ = some (.int .i64 xb) ∧ w2.cell? ⟨wr.heap.size, 1, none⟩ = some (.int .i64 xp) ∧ w2.cell? ⟨wr.heap.size, 2, none⟩ = some (.int .i64 xq) ∧ w2.cell? ⟨wr.heap.size, 3, none⟩ = some (.string xd) ∧ w2.cell? ⟨wr.heap.size, 4, none⟩ = some (.bool false) ∧ w2.cell? ⟨wr.heap.size, 5, none⟩ = some (.int .i64 xc) ∧ w2.cell? ⟨wr.heap.size, 6, none⟩ = some (.int .i64 xn)) := Lib.hid (by
                           have e : ∀ o, w2.cell? ⟨wr.heap.size, o, none⟩ = (wr.alloc (.cells #[.int .i64 xb, .int .i64 xp, .int .i64 xq, .string xd, .bool false, .int .i64 xc, .int .i64 xn] 37)).cell? ⟨wr.heap.size, o, none⟩ := fun o => hb2.cell (p := ⟨wr.heap.size, o, none⟩) (by simp)
                           refine ⟨?_, ?_, ?_, ?_, ?_, ?_, ?_⟩ <;> (rw [e, World.cell?_alloc_mark]; rfl))
                         obtain ⟨e0, e1, e2, e3, e4, e5, e6⟩ := HB2c.out
                         obtain ⟨v0, v1, v2, v3, v4, v5, v6, ⟨t0, t1, t2, t3, t4, t5, t6⟩, f0, f1, f2, f3, f4, f5, f6⟩ := there7 hth
                         clear hb2 hB2 hdk hth)
            go_roundw
            case rel => exact ⟨i + 1, j + 1, _, by go_num, by go_num, HDk.out⟩
            case measure => have := HLt.out; simp [RowKit.intOf]; omega
        · have hjl : j = l.length := by have := HD.out.jn; omega
          subst hjl
          have hltI : ¬ (l.length : Int) < (l.length : Int) := by omega
          have hil : i < l.length := HD.out.ij
          have hfl : (l.filter clean1).length = i ∧ l'.take i = l.filter clean1 := by
            have := HD.out.tk
            rw [List.take_length] at this
            refine ⟨?_, this⟩
            rw [← this, List.length_take, HD.out.ln]; omega
          have hic : ¬ cap = i := by have := Hlen.out.2; omega
          have hiI : (i : Int) ≤ (l.length : Int) := by omega
          have hicI : (i : Int) ≤ (cap : Int) := by omega
          have hcl : ∀ ty, (Builtin.clear_ #[28] ty #[.slice (some ⟨g, 0 + i * 7, none⟩) (l.length - i) (cap - i)]).run Tryz.prog wr = .ok (.tuple #[]) (wr.setCells g (0 + i * 7) (zc (l.length - i))) := fun ty => by
            have hown := HD.out.ow
            rcases hown.ways with ⟨z, _, _⟩ | ⟨g', cur, z, r1, r2, r3, r4, r5, r6⟩
            · cases z
            · injection z with z
              injection z with z
              subst z
              have hcs : cur.size = cap * 7 := r5
              have hlc := Hlen.out.2
              refine clear_ents wr ty g _ _ _ (by omega) (fun q hq => ?_) (fun q hq => by simp [World.frozen?, r2])
              simp only [World.cell?, r2]
              rw [Array.getElem?_eq_getElem (by rw [hcs]; omega)]; rfl
          simp only [Nat.zero_add] at hcl
          have HF : Hid (OwnE B0 (wr.setCells g (i * 7) (zc (l.length - i))) (some ⟨g, 0, none⟩) cap (l.filter clean1) ∧ Below B0 w (wr.setCells g (i * 7) (zc (l.length - i)))) := Lib.hid ⟨by
            rw [← hfl.2]
            exact HD.out.ow.take (by rw [HD.out.ln]; omega) _ (by rw [zc_len]; have := Hlen.out.2; omega), (HD.out.bu.sets g _ _ (.inl (by simp))).to_below (by have := HBg.out; simp; omega) HB0.out⟩
          have HL2 := Lib.hid hfl.1
          clear hlt hil hfl
          go_wp2_with fail
          go_ret
          refine ⟨?_, HF.out.1, HF.out.2⟩
          rw [HL2.out]
          rfl
  · have hidx : idxR l = -1 := if_neg hn
    rw [hidx] at HI
    have hcln : l.filter clean1 = l := filter_clean fun i x hx => hf.1 i x (by have := (List.getElem?_eq_some_iff.1 hx).1; omega) hx
    rw [hcln]
    have H := Lib.hid h
    have HB0 := Lib.hid hB0
    clear h hf hfl hn hidx hcln hB0
    go_enter Tryz.func73, Tryz.ntmps73
    go_wp2_with (go_at_call 98; with_reducible refine HI.out.mono ?_; rintro e w1 ⟨rfl, hb1⟩; have HB1 := Lib.hid hb1; clear hb1)
    go_ret
    exact ⟨rfl, H.out.but (But.of_below HB1.out) (by simp), HB1.out.mono HB0.out⟩
end Q
end Go.Proofs.YtmcalgnpinolmaaGreat
namespace Go.Proofs.YtmcalgnpinolmaaGreat
open Go.RowKit Go.Maps
set_option linter.unusedVariables false
set_option linter.unusedSimpArgs false
set_option maxRecDepth 20000
namespace Q
variable {B : Bk} {G : Gm} {V : Vi} {K : Int}

theorem ret_ent1 {fn : Func} (hres : fn.results = #[.cell 4 37]) {R : Ending → World → Prop} {a : Act} {w : World} {b : Nat} (e : En) (h4 : a.tmps.getD 4 undef = .pointer (some ⟨b, 0, none⟩)) (hd : a.defers = []) (hrow : w.rangeAt b 0 e.cells.toList)
    (hR : R (.returned e.val) w) : bodyPost Tryz.prog fn R .ret a w := by
  obtain ⟨eb, ep, sq, data, dirty, cl, n⟩ := e
  have k0 : w.cell? ⟨b, 0, none⟩ = _ := hrow 0 _ rfl
  have k1 : w.cell? ⟨b, 1, none⟩ = _ := hrow 1 _ rfl
  have k2 : w.cell? ⟨b, 2, none⟩ = _ := hrow 2 _ rfl
  have k3 : w.cell? ⟨b, 3, none⟩ = _ := hrow 3 _ rfl
  have k4 : w.cell? ⟨b, 4, none⟩ = _ := hrow 4 _ rfl
  have k5 : w.cell? ⟨b, 5, none⟩ = _ := hrow 5 _ rfl
  have k6 : w.cell? ⟨b, 6, none⟩ = _ := hrow 6 _ rfl
  simp only [Array.getD_eq_getD_getElem?] at h4
  simp only at k0 k1 k2 k3 k4 k5 k6
  refine bodyPost_ret_by ?_ hd hR
  simp [results, hres, h4, go_sem, k0, k1, k2, k3, k4, k5, k6, En.val]

theorem minL_cons (m x : En) (l : List En) : minL m (x :: l) = minL (if ord x.ep x.sq m.ep m.sq < 0 then x else m) l := rfl
/-- an entry in a block of its own -/
theorem eat_heap {w : World} {b : Nat} {T : TypeId} {x : En} (h : w.heap[b]? = some (.cells #[.int .i64 x.b, .int .i64 x.ep, .int .i64 x.sq, .string x.data, .bool x.dirty, .int .i64 x.cl, .int .i64 x.n] T (0, 0))) : EAt w b 0 x ∧ ∀ o, w.frozen? ⟨b, o, none⟩ = false := by
  obtain ⟨m0, m1, m2, m3, m4, m5, m6, fz, _⟩ := seven h
  exact ⟨⟨m0, m1, m2, m3, m4, m5, m6⟩, fz⟩
theorem heap_set7 {w : World} {b : Nat} {T : TypeId} {cur : Array Value} (h : w.heap[b]? = some (.cells cur T (0, 0))) (hs : cur.size = 7) (x : En) : (w.setCells b 0 x.cells.toList).heap[b]? = some (.cells #[.int .i64 x.b, .int .i64 x.ep, .int .i64 x.sq, .string x.data, .bool x.dirty, .int .i64 x.cl, .int .i64 x.n] T (0, 0)) := by
  obtain ⟨cur', g1, g2, g3⟩ := obj_setCells x.cells.toList 0 w cur h (by rw [hs]; exact Nat.le_refl _)
  have e : cur' = #[.int .i64 x.b, .int .i64 x.ep, .int .i64 x.sq, .string x.data, .bool x.dirty, .int .i64 x.cl, .int .i64 x.n] := by
    apply Array.toList_inj.1
    rw [g3]
    have h7 : x.cells.toList.length = 7 := rfl
    rw [List.take_zero, List.nil_append, h7, List.drop_of_length_le (by rw [Array.length_toList, hs]; exact Nat.le_refl _), List.append_nil]
    rfl
  rw [g1, e]

set_option maxHeartbeats 4000000 in
theorem min_q (w : World) (B0 : Nat) (a : Option Addr) (cap : Nat) (x0 : En) (l : List En) (h : OwnE B0 w a cap (x0 :: l)) :
    Calls Tryz.prog 75 #[.slice a (x0 :: l).length cap, .func (.func 76) #[] #[]] w fun e w' => e = .returned (minL x0 l).val ∧ Below w.heap.size w w' := by
  have hl6 := h.2
  obtain ⟨g, rfl, hg2, hg3, hx0⟩ := h.cell (i := 0) (x := x0) rfl
  have hlI : ((x0 :: l).length : Int) ≤ 1000 := by omega
  have hl1 : (1 : Int) ≤ ((x0 :: l).length : Int) := by simp; omega
  have hlt1 : ¬ (((x0 :: l).length : Int) < 1) := by omega
  have H := Lib.hid h
  have Hg := Lib.hid hg3
  generalize hL : x0 :: l = L at *
  obtain ⟨zb, zp, zq, zd, zy, zc, zn⟩ := x0
  have hb0 := (Below.refl w.heap.size w).alloc (Nat.le_refl _) (.cells #[.int .i64 0, .int .i64 0, .int .i64 0, .string ⟨#[]⟩, .bool false, .int .i64 0, .int .i64 0] 37)
  obtain ⟨c0, c1, c2, c3, c4, c5, c6⟩ := hx0.but (But.of_below hb0) (by simp)
  simp only [Nat.zero_mul, Nat.zero_add] at c0 c1 c2 c3 c4 c5 c6
  have hb1 := hb0.alloc hb0.size (.cells #[.int .i64 zb, .int .i64 zp, .int .i64 zq, .string zd, .bool zy, .int .i64 zc, .int .i64 zn] 37)
  have HB1 := Lib.hid hb1
  have HZ1 : Hid (((w.alloc (.cells #[.int .i64 0, .int .i64 0, .int .i64 0, .string ⟨#[]⟩, .bool false, .int .i64 0, .int .i64 0] 37)).alloc (.cells #[.int .i64 zb, .int .i64 zp, .int .i64 zq, .string zd, .bool zy, .int .i64 zc, .int .i64 zn] 37)).heap[w.heap.size]? = some (.cells #[.int .i64 0, .int .i64 0, .int .i64 0, .string ⟨#[]⟩, .bool false, .int .i64 0, .int .i64 0] 37 (0, 0))) := Lib.hid (by
    rw [Below.heap_alloc _ _ _ (by simp)]; exact heap_alloc_new w _)
  have HP1 : Hid (((w.alloc (.cells #[.int .i64 0, .int .i64 0, .int .i64 0, .string ⟨#[]⟩, .bool false, .int .i64 0, .int .i64 0] 37)).alloc (.cells #[.int .i64 zb, .int .i64 zp, .int .i64 zq, .string zd, .bool zy, .int .i64 zc, .int .i64 zn] 37)).heap[w.heap.size + 1]? = some (.cells #[.int .i64 zb, .int .i64 zp, .int .i64 zq, .string zd, .bool zy, .int .i64 zc, .int .i64 zn] 37 (0, 0))) := Lib.hid (by
    have := heap_alloc_new (w.alloc (.cells #[.int .i64 0, .int .i64 0, .int .i64 0, .string ⟨#[]⟩, .bool false, .int .i64 0, .int .i64 0] 37)) (.cells #[.int .i64 zb, .int .i64 zp, .int .i64 zq, .string zd, .bool zy, .int .i64 zc, .int .i64 zn] 37)
    rwa [show (w.alloc (.cells #[.int .i64 0, .int .i64 0, .int .i64 0, .string ⟨#[]⟩, .bool false, .int .i64 0, .int .i64 0] 37)).heap.size = w.heap.size + 1 by simp] at this)
  have HL1 : Hid (L.drop 1 = l) := Lib.hid (by rw [← hL]; rfl)
  clear h hl6 hg2 hg3 hx0 hL hb0 hb1
  go_enter Tryz.func75, Tryz.ntmps75
  go_wp2_with fail
  go_loopw [6] (fun i wr => ∃ (k : Nat) (m : En), 1 ≤ k ∧ k ≤ L.length ∧ i = .int .i64 k ∧ Below w.heap.size w wr ∧ wr.heap[w.heap.size]? = some (.cells #[.int .i64 0, .int .i64 0, .int .i64 0, .string ⟨#[]⟩, .bool false, .int .i64 0, .int .i64 0] 37 (0, 0)) ∧ wr.heap[w.heap.size + 1]? = some (.cells #[.int .i64 m.b, .int .i64 m.ep, .int .i64 m.sq, .string m.data, .bool m.dirty, .int .i64 m.cl, .int .i64 m.n] 37 (0, 0)) ∧ Hid (minL m (L.drop k) = minL ⟨zb, zp, zq, zd, zy, zc, zn⟩ l)) (fun i _ => L.length - (RowKit.intOf i).toNat)
  case atStart => exact ⟨1, ⟨zb, zp, zq, zd, zy, zc, zn⟩, by omega, by omega, rfl, HB1.out, HZ1.out, HP1.out, Lib.hid (by rw [HL1.out])⟩
  case round =>
    obtain ⟨k, m, hk1, hk, rfl, hb, hz, hp, HM⟩ := hrel
    have HB := Lib.hid hb
    have HZ := Lib.hid hz
    have HP := Lib.hid hp
    obtain ⟨mb, mp, mq, md, my, mc, mn⟩ := m
    have hep := eat_heap (x := ⟨mb, mp, mq, md, my, mc, mn⟩) hp
    clear hb hz hp HB1 HZ1 HP1
    by_cases hlt : k < L.length
    · have hltI : (k : Int) < (L.length : Int) := by omega
      obtain ⟨x, hx⟩ : ∃ x, L[k]? = some x := ⟨_, List.getElem?_eq_getElem hlt⟩
      obtain ⟨g', hg1, hg2, hg3, hg4⟩ := H.out.cell hx
      injection hg1 with hg1
      injection hg1 with hg1
      subst hg1
      have hrc := hg4.but (But.of_below HB.out) (by simp)
      have hdrop : L.drop k = x :: L.drop (k + 1) := by
        obtain ⟨h1, h2⟩ := List.getElem?_eq_some_iff.1 hx
        rw [← h2]; exact List.drop_eq_getElem_cons h1
      obtain ⟨xb, xp, xq, xd, xy, xc, xn⟩ := x
      rw [hdrop] at HM
      have HMi := HM
      have HLt := Lib.hid hlt
      have HS : Hid (∀ w', Below wr.heap.size wr w' → w'.cell? ⟨g, k * 7, none⟩ = some (.int .i64 xb) ∧ w'.cell? ⟨g, k * 7 + 1, none⟩ = some (.int .i64 xp) ∧ w'.cell? ⟨g, k * 7 + 2, none⟩ = some (.int .i64 xq) ∧ w'.cell? ⟨g, k * 7 + 3, none⟩ = some (.string xd) ∧ w'.cell? ⟨g, k * 7 + 4, none⟩ = some (.bool xy) ∧ w'.cell? ⟨g, k * 7 + 5, none⟩ = some (.int .i64 xc) ∧ w'.cell? ⟨g, k * 7 + 6, none⟩ = some (.int .i64 xn) ∧ w'.cell? ⟨w.heap.size + 1, 0, none⟩ = some (.int .i64 mb) ∧ w'.cell? ⟨w.heap.size + 1, 1, none⟩ = some (.int .i64 mp) ∧ w'.cell? ⟨w.heap.size + 1, 2, none⟩ = some (.int .i64 mq) ∧ w'.cell? ⟨w.heap.size + 1, 3, none⟩ = some (.string md) ∧ w'.cell? ⟨w.heap.size + 1, 4, none⟩ = some (.bool my) ∧ w'.cell? ⟨w.heap.size + 1, 5, none⟩ = some (.int .i64 mc) ∧ w'.cell? ⟨w.heap.size + 1, 6, none⟩ = some (.int .i64 mn)) := Lib.hid (fun w' hb => by
        have r := hrc.but (But.of_below hb) (by simp)
        have p := hep.1.but (But.of_below hb) (by simp)
        exact ⟨r.c0, r.c1, r.c2, r.c3, r.c4, r.c5, r.c6, p.c0, p.c1, p.c2, p.c3, p.c4, p.c5, p.c6⟩)
      have HS1 := Lib.hid (HS.out wr.drew ((Below.refl _ _).drew))
      have H2 := Lib.hid (fun w' => low2_q w' ⟨xb, xp, xq, xd, xy, xc, xn⟩ ⟨mb, mp, mq, md, my, mc, mn⟩)
      unfold En.val at H2
      simp only at H2
      clear hg2 hg3 hg4 hrc hep hx hdrop hlt hk hk1
      have HCx : ∀ z : Prop, z → z := fun _ h => h
      by_cases hc : ord xp xq mp mq < 0
      · have hmin : minL ⟨xb, xp, xq, xd, xy, xc, xn⟩ (L.drop (k + 1)) = minL ⟨zb, zp, zq, zd, zy, zc, zn⟩ l := by
          have := HM.out
          rw [minL_cons, if_pos hc] at this
          exact this
        have HMn := Lib.hid hmin
        have HC0 := Lib.hid hc
        clear hmin HM HMi
        go_wp2_with fail
        go_region_held3 (fun w' => w'.cell? ⟨g, k * 7, none⟩ = some (.int .i64 xb) ∧ w'.cell? ⟨g, k * 7 + 1, none⟩ = some (.int .i64 xp) ∧ w'.cell? ⟨g, k * 7 + 2, none⟩ = some (.int .i64 xq) ∧ w'.cell? ⟨g, k * 7 + 3, none⟩ = some (.string xd) ∧ w'.cell? ⟨g, k * 7 + 4, none⟩ = some (.bool xy) ∧ w'.cell? ⟨g, k * 7 + 5, none⟩ = some (.int .i64 xc) ∧ w'.cell? ⟨g, k * 7 + 6, none⟩ = some (.int .i64 xn) ∧ w'.cell? ⟨w.heap.size + 1, 0, none⟩ = some (.int .i64 mb) ∧ w'.cell? ⟨w.heap.size + 1, 1, none⟩ = some (.int .i64 mp) ∧ w'.cell? ⟨w.heap.size + 1, 2, none⟩ = some (.int .i64 mq) ∧ w'.cell? ⟨w.heap.size + 1, 3, none⟩ = some (.string md) ∧ w'.cell? ⟨w.heap.size + 1, 4, none⟩ = some (.bool my) ∧ w'.cell? ⟨w.heap.size + 1, 5, none⟩ = some (.int .i64 mc) ∧ w'.cell? ⟨w.heap.size + 1, 6, none⟩ = some (.int .i64 mn))
          (first
            | exact HS1.out
            | exact HS3.out)
          (first
            | (go_at_call 76; with_reducible refine (H2.out _).mono ?_; rintro e w2 ⟨rfl, hb2⟩
               have HB2 : Hid (Below wr.heap.size wr w2) := Lib.hid (((Below.refl _ _).drew).trans hb2)
               have HS3 := Lib.hid (HS.out w2 HB2.out)
               clear hb2))
        obtain ⟨c0, c1, c2, c3, c4, c5, c6, p0, p1, p2, p3, p4, p5, p6⟩ := HS3.out
        have hp2 : w2.heap[w.heap.size + 1]? = _ := (HB2.out.block _ (lt_of_heap HP.out)).trans HP.out
        have hz2 : w2.heap[w.heap.size]? = _ := (HB2.out.block _ (lt_of_heap HZ.out)).trans HZ.out
        have fz : ∀ o, w2.frozen? ⟨w.heap.size + 1, o, none⟩ = false := (eat_heap (x := ⟨mb, mp, mq, md, my, mc, mn⟩) hp2).2
        have HP3 := Lib.hid (heap_set7 hp2 rfl ⟨xb, xp, xq, xd, xy, xc, xn⟩)
        have HB3 : Hid (Below w.heap.size w (w2.setCells (w.heap.size + 1) 0 (En.cells ⟨xb, xp, xq, xd, xy, xc, xn⟩).toList)) := Lib.hid ((HB.out.trans (HB2.out.mono HB.out.size)).trans (((But.refl [w.heap.size + 1] w2).sets _ _ _ (.inl (by simp))).to_below (by simp) (Nat.le_trans HB.out.size HB2.out.size)))
        have HZ3 : Hid ((w2.setCells (w.heap.size + 1) 0 (En.cells ⟨xb, xp, xq, xd, xy, xc, xn⟩).toList).heap[w.heap.size]? = _) := Lib.hid ((((But.refl [w.heap.size + 1] w2).sets (w.heap.size + 1) 0 (En.cells ⟨xb, xp, xq, xd, xy, xc, xn⟩).toList (.inl (by simp))).block w.heap.size (lt_of_heap hz2) (by simp)).trans hz2)
        clear hp2 hz2
        go_wp2_with fail
        go_roundw
        case rel => exact ⟨k + 1, ⟨xb, xp, xq, xd, xy, xc, xn⟩, by omega, by have := HLt.out; omega, by go_num, HB3.out, HZ3.out, HP3.out, HMn⟩
        case measure => have := HLt.out; simp [RowKit.intOf]; omega
      · have hmin : minL ⟨mb, mp, mq, md, my, mc, mn⟩ (L.drop (k + 1)) = minL ⟨zb, zp, zq, zd, zy, zc, zn⟩ l := by
          have := HM.out
          rw [minL_cons, if_neg hc] at this
          exact this
        have HMn := Lib.hid hmin
        have HC0 := Lib.hid hc
        clear hmin HM HMi
        go_wp2_with fail
        go_region_held3 (fun w' => w'.cell? ⟨g, k * 7, none⟩ = some (.int .i64 xb) ∧ w'.cell? ⟨g, k * 7 + 1, none⟩ = some (.int .i64 xp) ∧ w'.cell? ⟨g, k * 7 + 2, none⟩ = some (.int .i64 xq) ∧ w'.cell? ⟨g, k * 7 + 3, none⟩ = some (.string xd) ∧ w'.cell? ⟨g, k * 7 + 4, none⟩ = some (.bool xy) ∧ w'.cell? ⟨g, k * 7 + 5, none⟩ = some (.int .i64 xc) ∧ w'.cell? ⟨g, k * 7 + 6, none⟩ = some (.int .i64 xn) ∧ w'.cell? ⟨w.heap.size + 1, 0, none⟩ = some (.int .i64 mb) ∧ w'.cell? ⟨w.heap.size + 1, 1, none⟩ = some (.int .i64 mp) ∧ w'.cell? ⟨w.heap.size + 1, 2, none⟩ = some (.int .i64 mq) ∧ w'.cell? ⟨w.heap.size + 1, 3, none⟩ = some (.string md) ∧ w'.cell? ⟨w.heap.size + 1, 4, none⟩ = some (.bool my) ∧ w'.cell? ⟨w.heap.size + 1, 5, none⟩ = some (.int .i64 mc) ∧ w'.cell? ⟨w.heap.size + 1, 6, none⟩ = some (.int .i64 mn))
          (first
            | exact HS1.out
            | exact HS3.out)
          (first
            | (go_at_call 76; with_reducible refine (H2.out _).mono ?_; rintro e w2 ⟨rfl, hb2⟩
               have HB2 : Hid (Below wr.heap.size wr w2) := Lib.hid (((Below.refl _ _).drew).trans hb2)
               have HS3 := Lib.hid (HS.out w2 HB2.out)
               clear hb2))
        have hp2 : w2.heap[w.heap.size + 1]? = _ := (HB2.out.block _ (lt_of_heap HP.out)).trans HP.out
        have hz2 : w2.heap[w.heap.size]? = _ := (HB2.out.block _ (lt_of_heap HZ.out)).trans HZ.out
        have HP2 := Lib.hid hp2
        have HZ2 := Lib.hid hz2
        clear hp2 hz2
        go_wp2_with fail
        go_roundw
        case rel => exact ⟨k + 1, ⟨mb, mp, mq, md, my, mc, mn⟩, by omega, by have := HLt.out; omega, by go_num, HB.out.trans (HB2.out.mono HB.out.size), HZ2.out, HP2.out, HMn⟩
        case measure => have := HLt.out; simp [RowKit.intOf]; omega
    · obtain rfl : k = L.length := by omega
      have hltI : ¬ (L.length : Int) < (L.length : Int) := by omega
      have hmin : (⟨mb, mp, mq, md, my, mc, mn⟩ : En) = minL ⟨zb, zp, zq, zd, zy, zc, zn⟩ l := by
        have := HM.out
        rw [List.drop_of_length_le (Nat.le_refl _)] at this
        exact this
      have HMn := Lib.hid hmin
      obtain ⟨⟨p0, p1, p2, p3, p4, p5, p6⟩, _⟩ := hep
      obtain ⟨z0, z1, z2, z3, z4, z5, z6, fz, ht⟩ := seven HZ.out
      have HT := Lib.hid ht
      clear hlt hk hk1 hmin ht HM
      go_wp2_with fail
      refine ret_ent1 Tryz.results75 ⟨mb, mp, mq, md, my, mc, mn⟩ rfl rfl (World.rangeAt_setCells_same _ _ 0 [.int .i64 mb, .int .i64 mp, .int .i64 mq, .string md, .bool my, .int .i64 mc, .int .i64 mn] HT.out) ⟨by rw [HMn.out], ?_⟩
      exact HB.out.trans (((But.refl [w.heap.size] wr).sets w.heap.size 0 [.int .i64 mb, .int .i64 mp, .int .i64 mq, .string md, .bool my, .int .i64 mc, .int .i64 mn] (.inl (by simp))).to_below (by simp) HB.out.size)

theorem field_ent0 (a b c : Int) (d : ByteArray) (e : Bool) (f g : Int) (w : World) : (Instr.field 37 (.agg #[.int .i64 a, .int .i64 b, .int .i64 c, .string d, .bool e, .int .i64 f, .int .i64 g]) 0).run Tryz.prog w = .ok (.int .i64 a) w := by kernel_rfl
def lowI (nb : Nat) (e : Vm) : Int := match lowest nb e with
  | some x => x.b
  | none => 0

set_option maxHeartbeats 1000000 in
theorem lowest_cs (w : World) (h : Cs w B G V K) : Calls Tryz.prog 50 #[.pointer (some ⟨B.qB, 0, none⟩)] w fun e w' => e = .returned (.tuple #[.int .i64 (lowI G.nb V.e), .bool (lowest G.nb V.e).isSome]) ∧ Below w.heap.size w w' := by
  have HA : Hid (Calls Tryz.prog 20 #[.pointer (some ⟨B.qB, 0, none⟩)] w fun e w' => ∃ a n cap, e = .returned (.slice a n cap) ∧ n = (allV G.nb V.e).length ∧ OwnE w.heap.size w' a cap (allV G.nb V.e) ∧ Below w.heap.size w w') := Lib.hid (by
    refine (all_cs w h).mono ?_
    rintro e w' ⟨a, cap, rfl, ho, hb⟩
    exact ⟨a, _, cap, rfl, (allV_len _ _).symm, ho, hb⟩)
  have hlow : lowest G.nb V.e = lowL ((allV G.nb V.e).filter clean1) := rfl
  have hI : lowI G.nb V.e = match lowL ((allV G.nb V.e).filter clean1) with | some x => x.b | none => 0 := rfl
  rw [hlow, hI]
  generalize allV G.nb V.e = all at *
  clear h hlow hI
  have HD : Hid (∀ w' a cap, OwnE w.heap.size w' a cap all → Below w.heap.size w w' → Calls Tryz.prog 73 #[.slice a all.length cap, .func (.func 74) #[] #[]] w' fun e w'' => ∃ n2, e = .returned (.slice a n2 cap) ∧ n2 = (all.filter clean1).length ∧ OwnE w.heap.size w'' a cap (all.filter clean1) ∧ Below w.heap.size w w'') := Lib.hid (fun w' a cap ho hb => by
    refine (delete_q w' w.heap.size a cap all ho hb.size).mono ?_
    rintro e w'' ⟨rfl, h1, h2⟩
    exact ⟨_, rfl, rfl, h1, hb.trans h2⟩)
  cases hf : all.filter clean1 with
  | nil =>
    rw [hf] at HD
    simp only [lowL, Option.isSome_none]
    clear hf
    go_enter Tryz.func50, Tryz.ntmps50
    go_wp2_with (first
      | (go_at_call 20; with_reducible refine HA.out.mono ?_; rintro e w1 ⟨a1, n1, cap1, rfl, rfl, ho1, hb1⟩; have H1 := Lib.hid (And.intro ho1 hb1); clear ho1 hb1)
      | (go_at_call 73; with_reducible refine (HD.out _ _ _ H1.out.1 H1.out.2).mono ?_; rintro e w2 ⟨n2, rfl, hn2, ho2, hb2⟩; simp at hn2; subst hn2; have H2 := Lib.hid hb2; clear ho2 hb2))
    go_ret2
    exact ⟨rfl, H2.out⟩
  | cons x0 l =>
    rw [hf] at HD
    simp only [lowL, Option.isSome_some]
    clear hf
    have HMn : Hid (∀ w' a n cap, n = (x0 :: l).length → OwnE w.heap.size w' a cap (x0 :: l) → Calls Tryz.prog 75 #[.slice a n cap, .func (.func 76) #[] #[]] w' fun e w'' => e = .returned (minL x0 l).val ∧ Below w'.heap.size w' w'') := Lib.hid (fun w' a n cap hn ho => by subst hn; exact min_q w' w.heap.size a cap x0 l ho)
    generalize minL x0 l = mm at *
    obtain ⟨mb, mp, mq, md, my, mc, mn⟩ := mm
    unfold En.val at HMn
    simp only at HMn ⊢
    have hfl := field_ent0 mb mp mq md my mc mn
    go_enter Tryz.func50, Tryz.ntmps50
    go_wp2_with (first
      | (go_at_call 20; with_reducible refine HA.out.mono ?_; rintro e w1 ⟨a1, n1, cap1, rfl, rfl, ho1, hb1⟩; have H1 := Lib.hid (And.intro ho1 hb1); clear ho1 hb1)
      | (go_at_call 73; with_reducible refine (HD.out _ _ _ H1.out.1 H1.out.2).mono ?_; rintro e w2 ⟨n2, rfl, hn2, ho2, hb2⟩
         have hne : ((n2 : Int) == 0) = false := by rw [hn2, beq_eq_false_iff_ne]; simp; omega
         have H2 := Lib.hid (And.intro hn2 (And.intro ho2 hb2)); clear ho2 hb2 hn2)
      | (go_at_call 75; with_reducible refine (HMn.out _ _ _ _ H2.out.1 H2.out.2.1).mono ?_; rintro e w3 ⟨rfl, hb3⟩; have H3 := Lib.hid hb3; clear hb3))
    go_ret2
    exact ⟨rfl, H2.out.2.2.trans (H3.out.mono H2.out.2.2.size)⟩
end Q
end Go.Proofs.YtmcalgnpinolmaaGreat
namespace Go.Proofs.YtmcalgnpinolmaaGreat
open Go.RowKit Go.Maps
set_option linter.unusedVariables false
set_option linter.unusedSimpArgs false
set_option maxRecDepth 20000
namespace Q
variable {B : Bk} {G : Gm} {V : Vi} {K : Int}

/-! rows of records -/
def recs7 : List (Deed × Kp) → List Value
  | [] => []
  | x :: l => (recC x.1 x.2).toList ++ recs7 l
theorem recs7_length : ∀ l : List (Deed × Kp), (recs7 l).length = l.length * 7
  | [] => rfl
  | x :: l => by simp only [recs7, List.length_append, List.length_cons, recs7_length l, recC]; simp; omega
theorem recs7_append : ∀ l m : List (Deed × Kp), recs7 (l ++ m) = recs7 l ++ recs7 m
  | [], m => rfl
  | x :: l, m => by simp only [recs7, List.cons_append, recs7_append l m, List.append_assoc]
theorem recs7_get : ∀ {l : List (Deed × Kp)} {i : Nat} {x : Deed × Kp}, l[i]? = some x → ∀ j v, (recC x.1 x.2).toList[j]? = some v → (recs7 l)[i * 7 + j]? = some v
  | [], i, x, h, _, _, _ => by simp at h
  | q :: l, 0, x, h, j, v, hv => by
    simp at h; subst h
    have hj : j < (recC q.1 q.2).toList.length := (List.getElem?_eq_some_iff.1 hv).1
    rw [Nat.zero_mul, Nat.zero_add, recs7, List.getElem?_append_left hj]
    exact hv
  | q :: l, i + 1, x, h, j, v, hv => by
    have := recs7_get (l := l) (i := i) (x := x) (by simpa using h) j v hv
    have h7 : (recC q.1 q.2).toList.length = 7 := rfl
    rw [show (i + 1) * 7 + j = 7 + (i * 7 + j) by omega, recs7, List.getElem?_append_right (by omega), h7, Nat.add_sub_cancel_left]
    exact this
theorem rec7_info : (Tryz.prog.info? 98).map (fun i => (i.zero, i.size, i.bytes)) = some (some (.agg #[.nilIface, .int .i64 0, .int .i64 0, .int .i64 0, .int .i64 0, .int .i64 0, .int .i64 0]), 7, 64) := by kernel_rfl

def ab : Option Addr → List Nat
  | some p => [p.block]
  | none => []
def OwnD (w : World) (a : Option Addr) (cap : Nat) (l : List (Deed × Kp)) : Prop := w.ownsRow 0 98 7 (.slice a l.length cap) l.length (recs7 l) ∧ l.length ≤ 10
theorem OwnD.nil (w : World) : OwnD w none 0 [] := ⟨World.ownsRow_nil _ _ _ _, by simp⟩
theorem OwnD.ways {w : World} {a : Option Addr} {cap : Nat} {l : List (Deed × Kp)} (h : OwnD w a cap l) : (a = none ∧ cap = 0 ∧ l = []) ∨
    ∃ g cur, a = some ⟨g, 0, none⟩ ∧ w.heap[g]? = some (.cells cur 98 (0, 0)) ∧ l.length ≤ cap ∧ cap ≤ maxLen ∧ cur.size = cap * 7 ∧ cur.toList.take (l.length * 7) = recs7 l := by
  rcases h.1.2 with ⟨hv, h0⟩ | ⟨g, c, cur, hv, hB, hh, hn, hm, hs, ht⟩
  · injection hv with e1 e2 e3
    exact .inl ⟨e1, e3, List.eq_nil_of_length_eq_zero h0⟩
  · injection hv with e1 e2 e3
    subst e1 e3
    exact .inr ⟨g, cur, rfl, hh, hn, hm, hs, ht⟩
theorem OwnD.but {w w' : World} {a : Option Addr} {cap : Nat} {l : List (Deed × Kp)} (h : OwnD w a cap l) {q : List Nat} (hb : But q w w') (hq : ∀ g, a = some ⟨g, 0, none⟩ → g ∉ q) : OwnD w' a cap l := by
  rcases h.ways with ⟨rfl, rfl, rfl⟩ | ⟨g, cur, rfl, h1, h2, h3, h4, h5⟩
  · exact OwnD.nil w'
  · exact ⟨⟨recs7_length l, .inr ⟨g, cap, cur, rfl, Nat.zero_le _, by rw [hb.block g (lt_of_heap h1) (hq g rfl)]; exact h1, h2, h3, h4, h5⟩⟩, h.2⟩
theorem OwnD.row {w : World} {g cap : Nat} {l : List (Deed × Kp)} (h : OwnD w (some ⟨g, 0, none⟩) cap l) : RowD w g l := by
  rcases h.ways with ⟨h0, _, _⟩ | ⟨g', cur, hg, h1, h2, h3, h4, h5⟩
  · cases h0
  · injection hg with hg
    injection hg with hg
    subst hg
    refine ⟨lt_of_heap h1, fun i d k hi => ?_⟩
    have hil : i < l.length := (List.getElem?_eq_some_iff.1 hi).1
    have key : ∀ j v, j < 7 → (recC d k).toList[j]? = some v → w.cell? ⟨g, i * 7 + j, none⟩ = some v := fun j v hj hv => by
      have q := recs7_get hi j v hv
      rw [← h5, List.getElem?_take, if_pos (by omega), Array.getElem?_toList] at q
      simp only [World.cell?, h1]
      simpa using q
    exact ⟨key 0 _ (by omega) rfl, key 1 _ (by omega) rfl, key 2 _ (by omega) rfl, key 3 _ (by omega) rfl, key 4 _ (by omega) rfl, key 5 _ (by omega) rfl, key 6 _ (by omega) rfl⟩

theorem run_append_rec7 (w : World) (ty : TypeId) (a : Option Addr) (cap : Nat) (l : List (Deed × Kp)) (hown : OwnD w a cap l) (b c : Nat) (d : Deed) (k : Kp) (hr : RowD w b [(d, k)]) (hsum : l.length + 1 ≤ 10) :
    ∃ b' cap' w', (Builtin.append_ #[110, 110] ty #[.slice a l.length cap, .slice (some ⟨b, 0, none⟩) 1 c]).run Tryz.prog w = .ok (.slice (some ⟨b', 0, none⟩) (l.length + 1) cap') w' ∧ OwnD w' (some ⟨b', 0, none⟩) cap' (l ++ [(d, k)]) ∧
      (a = some ⟨b', 0, none⟩ ∨ w.heap.size ≤ b') ∧ But (ab a) w w' := by
  obtain ⟨i0, hi0, hz0, hz1, hz2⟩ := info_parts rec7_info
  obtain ⟨v', w', hrun, h5, h6, _, h7⟩ := run_append_own_at (P := Tryz.prog) (w := w) 0 110 ty 98 i0 _ 7 64 Tryz.underlying110 hi0 hz0 hz1 hz2 rfl (by omega) _ l.length (recs7 l) hown.1 ⟨b, 0, none⟩ 1 c (recC d k).toList
    rfl (fun j u hu => by
      have hj : j < 7 := by have := (List.getElem?_eq_some_iff.1 hu).1; simpa [recC] using this
      obtain ⟨c0, c1, c2, c3, c4, c5, c6⟩ := hr.2 0 d k rfl
      match j, hj, hu with
      | 0, _, hu => simp [recC] at hu; subst hu; simpa [Addr.add] using c0
      | 1, _, hu => simp [recC] at hu; subst hu; simpa [Addr.add] using c1
      | 2, _, hu => simp [recC] at hu; subst hu; simpa [Addr.add] using c2
      | 3, _, hu => simp [recC] at hu; subst hu; simpa [Addr.add] using c3
      | 4, _, hu => simp [recC] at hu; subst hu; simpa [Addr.add] using c4
      | 5, _, hu => simp [recC] at hu; subst hu; simpa [Addr.add] using c5
      | 6, _, hu => simp [recC] at hu; subst hu; simpa [Addr.add] using c6) (by
        intro u hu
        obtain ⟨t, v, hv⟩ := d.val_iface
        simp [recC, hv] at hu
        rcases hu with rfl | rfl | rfl | rfl | rfl | rfl | rfl <;> rfl) (by simp only [maxLen]; omega) (by omega) (Nat.zero_le _)
  have hl : (l ++ [(d, k)]).length = l.length + 1 := by simp
  have hrc : recs7 (l ++ [(d, k)]) = recs7 l ++ (recC d k).toList := by rw [recs7_append]; simp [recs7]
  rcases h5.2 with ⟨rfl, h0⟩ | ⟨g, c', cur, rfl, r⟩
  · omega
  · refine ⟨g, c', w', hrun, ⟨by rw [hl, hrc]; exact h5, by rw [hl]; exact hsum⟩, ?_, ?_⟩
    · rcases hown.ways with ⟨rfl, rfl, rfl⟩ | ⟨g0, cur0, rfl, _⟩
      · rcases h7 with h7 | h7
        · simp [Value.ownBlock] at h7
        · simp [Value.ownBlock] at h7; right; omega
      · rcases h7 with h7 | h7
        · simp [Value.ownBlock] at h7; left; rw [h7]
        · simp [Value.ownBlock] at h7; right; omega
    · rcases hown.ways with ⟨rfl, rfl, rfl⟩ | ⟨g0, cur0, rfl, _⟩
      · exact (But.refl _ w).grown h6 (fun q hq => by simp [Value.ownBlock] at hq)
      · exact (But.refl _ w).grown h6 (fun q hq => by simp [Value.ownBlock] at hq; subst hq; exact .inl (by simp [ab]))

theorem wpList_append_rec7 (w : World) {ops : Array Oper} {rest : List Oper} {o : Oper} {act : Act} {Q : Exit → Act → World → Prop} (hgd : o.guard = none) (s x : Operand)
    (ho : o.op = .call { callee := .builtin .append, args := #[s, x], argTypes := #[110, 110] })
    (a : Option Addr) (n cap : Nat) (l : List (Deed × Kp)) (hs : act.eval s = .slice a n cap) (hn : l.length = n) (hown : OwnD w a cap l) (b c : Nat) (d : Deed) (k : Kp) (hx : act.eval x = .slice (some ⟨b, 0, none⟩) 1 c) (hr : RowD w b [(d, k)]) (hsum : l.length + 1 ≤ 10)
    (h : ∀ b' cap' w', OwnD w' (some ⟨b', 0, none⟩) cap' (l ++ [(d, k)]) → (a = some ⟨b', 0, none⟩ ∨ w.heap.size ≤ b') → But (ab a) w w' → wpList Tryz.prog ops Q rest (act.put o.dst (.slice (some ⟨b', 0, none⟩) (n + 1) cap')) w') : wpList Tryz.prog ops Q (o :: rest) act w := by
  refine wpList_plain hgd fun K hK => ?_
  subst hn
  obtain ⟨b', cap', w', hrun, h2, h3, h4⟩ := run_append_rec7 w o.type a cap l hown b c d k hr hsum
  unfold Oper.wp execOp
  simp only [ho, resolve, invoke, builtin, Sem.run_bind, Sem.run_pure, Result.andThen_ok, List.map_toArray, List.map_cons, List.map_nil, hs, hx, hrun]
  exact hK _ _ (h b' cap' w' h2 h3 h4)
theorem step_append_rec7 (w : World) {ops : Array Oper} {o : Oper} {act : Act} {K : Act → World → Prop} {Q : Exit → Act → World → Prop} {E : Prop} (hgd : o.guard = none) (s x : Operand)
    (ho : o.op = .call { callee := .builtin .append, args := #[s, x], argTypes := #[110, 110] })
    (a : Option Addr) (n cap : Nat) (l : List (Deed × Kp)) (hs : act.eval s = .slice a n cap) (hn : l.length = n) (hown : OwnD w a cap l) (b c : Nat) (d : Deed) (k : Kp) (hx : act.eval x = .slice (some ⟨b, 0, none⟩) 1 c) (hr : RowD w b [(d, k)]) (hsum : l.length + 1 ≤ 10)
    (h : ∀ b' cap' w', OwnD w' (some ⟨b', 0, none⟩) cap' (l ++ [(d, k)]) → (a = some ⟨b', 0, none⟩ ∨ w.heap.size ≤ b') → But (ab a) w w' → K (act.put o.dst (.slice (some ⟨b', 0, none⟩) (n + 1) cap')) w') :
    if Region.wanted o (yielded ops act.tmps) = true then Oper.wp Tryz.prog o act w K Q else E := by
  have hw : Region.wanted o (yielded ops act.tmps) = true := by simp [Region.wanted, hgd]
  rw [if_pos hw]
  subst hn
  obtain ⟨b', cap', w', hrun, h2, h3, h4⟩ := run_append_rec7 w o.type a cap l hown b c d k hr hsum
  unfold Oper.wp execOp
  simp only [ho, resolve, invoke, builtin, Sem.run_bind, Sem.run_pure, Result.andThen_ok, List.map_toArray, List.map_cons, List.map_nil, hs, hx, hrun]
  exact h b' cap' w' h2 h3 h4

/-! what Put tells and makes -/
def fullV (nb N : Nat) (V : Vi) (b : Int) : Prop := V.e b = none ∧ N - 6 ≤ num nb V.e
def putDs (nb : Nat) (V : Vi) (x : En) (full : Bool) : List (Deed × Kp) := if full then [(.drop (lowI nb V.e), V.k), (.lay x, behind V.k x)] else [(.lay x, behind V.k x)]
open Classical in
noncomputable def putE (nb N : Nat) (V : Vi) (x : En) : Int :=
  if checkE nb x ≠ 0 then checkE nb x else if ord x.ep x.sq V.k.ep V.k.sq ≤ 0 then 1 else if fullV nb N V x.b ∧ lowest nb V.e = none then 12 else 0
open Classical in
noncomputable def putVi (nb N : Nat) (V : Vi) (x : En) : Vi :=
  if putE nb N V x ≠ 0 then V else ⟨runV V.e (putDs nb V x (decide (fullV nb N V x.b))), behind V.k x⟩

theorem putVi_0 {nb N : Nat} {V : Vi} {x : En} (h : putE nb N V x ≠ 0) : putVi nb N V x = V := by unfold putVi; rw [if_pos h]
theorem putVi_1 {nb N : Nat} {V : Vi} {x : En} (h : putE nb N V x = 0) (hf : ¬ fullV nb N V x.b) : putVi nb N V x = ⟨runV V.e [(.lay x, behind V.k x)], behind V.k x⟩ := by
  unfold putVi
  rw [if_neg (by rw [h]; simp)]
  simp [hf, putDs]
theorem putVi_2 {nb N : Nat} {V : Vi} {x : En} (h : putE nb N V x = 0) (hf : fullV nb N V x.b) : putVi nb N V x = ⟨runV V.e [(.drop (lowI nb V.e), V.k), (.lay x, behind V.k x)], behind V.k x⟩ := by
  unfold putVi
  rw [if_neg (by rw [h]; simp)]
  simp [hf, putDs]

theorem behind_may {nb : Nat} {k : Kp} {x : En} (h : MayK k) (hx : MayE nb x) : MayK (behind k x) := by
  obtain ⟨h1, h2, h3, h4, h5, h6⟩ := h
  have e1 : In0 x.ep := ⟨by have := hx.p0; omega, hx.p1⟩
  have e2 : In0 x.sq := ⟨by have := hx.q0; omega, hx.q1⟩
  have e3 : In0 x.n := ⟨hx.n0, hx.n1⟩
  have hc0 := hx.c0
  have hc1 := hx.c1
  unfold behind
  split
  · exact ⟨e1, e2, h3, h4, h5, h6⟩
  · have hc : x.cl = 0 ∨ x.cl = 1 ∨ x.cl = 2 ∨ x.cl = 3 := by omega
    rcases hc with hc | hc | hc | hc <;> rw [hc] <;> simp (config := { decide := true }) only [Kp.set, Kp.get, if_true, if_false]
    · exact ⟨e1, e2, max_in h3 e3, h4, h5, h6⟩
    · exact ⟨e1, e2, h3, max_in h4 e3, h5, h6⟩
    · exact ⟨e1, e2, h3, h4, max_in h5 e3, h6⟩
    · exact ⟨e1, e2, h3, h4, h5, max_in h6 e3⟩
theorem num_add {nb : Nat} {e : Vm} {b : Int} (h0 : 0 ≤ b) (h1 : b < (nb : Int)) (h : e b = none) (x : En) : num nb (updV e b (some x)) = num nb e + 1 :=
  cnt_set h0 h1 (by rw [h]; rfl) (by unfold updV; rw [if_pos rfl]; rfl) (fun c hc => by unfold updV; rw [if_neg hc])
theorem num_del {nb : Nat} {e : Vm} {b : Int} {y : En} (h0 : 0 ≤ b) (h1 : b < (nb : Int)) (h : e b = some y) : num nb e = num nb (updV e b none) + 1 :=
  cnt_set h0 h1 (by unfold updV; rw [if_pos rfl]; rfl) (by rw [h]; rfl) (fun c hc => by unfold updV; rw [if_neg hc])

theorem put_adm1 {nb N : Nat} {V : Vi} {x : En} (o : VOk nb N V) (hx : MayE nb x) (hf : ¬ fullV nb N V x.b) : Adm nb N V.e (putDs nb V x false) := by
  refine ⟨hx, behind_may o.kk hx, ?_, trivial⟩
  show num nb (updV V.e x.b (some x)) ≤ N - 6
  cases hb : V.e x.b with
  | some y => rw [num_same hb]; exact o.cn
  | none =>
    rw [num_add hx.b0 hx.b1 hb]
    have : ¬ N - 6 ≤ num nb V.e := fun z => hf ⟨hb, z⟩
    omega
theorem lowI_is {nb : Nat} {e : Vm} {y : En} (h : lowest nb e = some y) : lowI nb e = y.b := by unfold lowI; rw [h]
theorem put_adm2 {nb N : Nat} {V : Vi} {x y : En} (o : VOk nb N V) (hx : MayE nb x) (hf : fullV nb N V x.b) (hl : lowest nb V.e = some y) : Adm nb N V.e (putDs nb V x true) := by
  obtain ⟨hm, hd⟩ := lowest_mem hl
  obtain ⟨b, h0, h1, h2⟩ := mem_allV.1 hm
  have hyb := o.key b y h2
  have hI := lowI_is hl
  have e1 : stepV V.e (.drop (lowI nb V.e)) = updV V.e b none := by rw [hI, hyb]; rfl
  have e2 := num_del h0 h1 h2
  have hcn := o.cn
  refine ⟨by rw [hI, hyb]; exact ⟨h0, h1⟩, o.kk, by rw [e1]; omega, hx, behind_may o.kk hx, ?_, trivial⟩
  rw [e1]
  show num nb (updV (updV V.e b none) x.b (some x)) ≤ N - 6
  have hbx : updV V.e b none x.b = none := by
    unfold updV
    split
    · rfl
    · exact hf.1
  rw [num_add hx.b0 hx.b1 hbx]
  omega
end Q
end Go.Proofs.YtmcalgnpinolmaaGreat
namespace Go.Proofs.YtmcalgnpinolmaaGreat
open Go.RowKit Go.Maps
set_option linter.unusedVariables false
set_option linter.unusedSimpArgs false
set_option maxRecDepth 20000
namespace Q
variable {B : Bk} {G : Gm} {V : Vi} {K : Int}

/-- Put's last step: the entry's own record behind those of l, and all of them brought -/
theorem put_end (w w5 w6 : World) (h : Cs w B G V K) (hK : K ≤ 600000000) (hb : Below w.heap.size w w5) (x : En) (hx : MayE G.nb x) (kk : Kp) (hkk : kk = behind V.k x) (l : List (Deed × Kp)) (hl : l.length ≤ 1) (a : Option Addr) (cap : Nat) (ho : OwnD w5 a cap l) (ha : ∀ g, a = some ⟨g, 0, none⟩ → w.heap.size ≤ g)
    (hadm : Adm G.nb G.N V.e (l ++ [(.lay x, kk)])) (V' : Vi) (hV : V' = ⟨runV V.e (l ++ [(.lay x, kk)]), kk⟩) (h6 : Below w5.heap.size w5 w6) :
    OwnD (w6.alloc (.cells #[.iface 117 x.val, .int .i64 kk.ep, .int .i64 kk.sq, .int .i64 kk.t0, .int .i64 kk.t1, .int .i64 kk.t2, .int .i64 kk.t3] 98)) a cap l ∧ RowD (w6.alloc (.cells #[.iface 117 x.val, .int .i64 kk.ep, .int .i64 kk.sq, .int .i64 kk.t0, .int .i64 kk.t1, .int .i64 kk.t2, .int .i64 kk.t3] 98)) w6.heap.size [(.lay x, kk)] ∧
    (∀ b9 cap9 w9, OwnD w9 (some ⟨b9, 0, none⟩) cap9 (l ++ [(.lay x, kk)]) → (a = some ⟨b9, 0, none⟩ ∨ (w6.alloc (.cells #[.iface 117 x.val, .int .i64 kk.ep, .int .i64 kk.sq, .int .i64 kk.t0, .int .i64 kk.t1, .int .i64 kk.t2, .int .i64 kk.t3] 98)).heap.size ≤ b9) → But (ab a) (w6.alloc (.cells #[.iface 117 x.val, .int .i64 kk.ep, .int .i64 kk.sq, .int .i64 kk.t0, .int .i64 kk.t1, .int .i64 kk.t2, .int .i64 kk.t3] 98)) w9 →
      Calls Tryz.prog 51 #[.pointer (some ⟨B.qB, 0, none⟩), .slice (some ⟨b9, 0, none⟩) (l.length + 1) cap9] w9 fun e w' => e = .returned (.int .i64 0) ∧ After w B G V' (K + 2002) w') := by
  have hb7 : Below w6.heap.size w6 (w6.alloc (.cells #[.iface 117 x.val, .int .i64 kk.ep, .int .i64 kk.sq, .int .i64 kk.t0, .int .i64 kk.t1, .int .i64 kk.t2, .int .i64 kk.t3] 98)) := (Below.refl _ _).alloc (Nat.le_refl _) _
  have hb57 := h6.trans (hb7.mono h6.size)
  have hbw7 := hb.trans (hb57.mono hb.size)
  refine ⟨ho.but (But.of_below hb57) (by simp), rowD_one w6 (.lay x) kk rfl, fun b9 cap9 w9 ho9 hb9 hbu9 => ?_⟩
  have hab : ∀ y ∈ ab a, w.heap.size ≤ y := fun y hy => by
    rcases ho.ways with ⟨rfl, _, _⟩ | ⟨g, cur, rfl, _⟩
    · simp [ab] at hy
    · simp [ab] at hy; rw [hy]; exact ha g rfl
  have hbw9 : Below w.heap.size w w9 := hbw7.trans (hbu9.to_below hab hbw7.size)
  have hb9n : b9 ∉ B.l := fun z => by
    have h1 := h.lt _ z
    rcases hb9 with h2 | h2
    · have := ha b9 h2; omega
    · have := hbw7.size; omega
  have hlen : (l ++ [((Deed.lay x), kk)]).length = l.length + 1 := by simp
  have := bring_cs w9 (h.below hbw9) (by omega) b9 cap9 (l ++ [(.lay x, kk)]) (by rw [hlen]; omega) ho9.row hb9n hadm
  rw [hlen] at this
  refine this.mono ?_
  rintro e w' ⟨rfl, r, g1, g2, g3⟩
  have e1 : lastK V.k (l ++ [((Deed.lay x), kk)]) = kk := lastK_snoc _ _ _
  rw [e1, ← hV] at g1
  exact ⟨rfl, After.from hbw9 g1 g2 g3⟩

set_option maxHeartbeats 4000000 in
theorem put_cs (w : World) (h : Cs w B G V K) (hK : K ≤ 600000000) (x : En) (hx0 : -9223372036854775808 ≤ x.b) (hx1 : x.b ≤ 9223372036854775807) :
    Calls Tryz.prog 23 #[.pointer (some ⟨B.qB, 0, none⟩), x.val] w fun e w' => e = .returned (.int .i64 (putE G.nb G.N V x)) ∧ After w B G (putVi G.nb G.N V x) (K + 2002) w' := by
  have ok := h.ok
  have hnum : num G.nb V.e ≤ 32 := Nat.le_trans (cnt_le _ _) ok.nb
  have hN : G.N ≤ 512 := by obtain ⟨s, h1, _⟩ := h; have := h1.lg.geo.fn; have := h1.lg.geo.n5; omega
  have hb0 := (Below.refl w.heap.size w).alloc (Nat.le_refl _) (.cells #[.int .i64 x.b, .int .i64 x.ep, .int .i64 x.sq, .string x.data, .bool x.dirty, .int .i64 x.cl, .int .i64 x.n] 37)
  have HCh := Lib.hid (check_q _ (h.below hb0).qc x)
  have hEq : putE G.nb G.N V x = putE G.nb G.N V x := rfl
  by_cases hc : checkE G.nb x = 0
  · have hmay := check_may hc
    rw [hc] at HCh
    obtain ⟨kk, hkk⟩ : ∃ kk, kk = behind V.k x := ⟨_, rfl⟩
    have HBh0 : ∀ w', Calls Tryz.prog 52 #[V.k.val, x.val] w' fun r w'' => r = .returned kk.val ∧ Below w'.heap.size w' w'' := fun w' => by rw [hkk]; exact behind_q w' V.k x hmay.c0 hmay.c1
    have HBh := Lib.hid HBh0
    have HEnd := Lib.hid (fun w5 w6 hb l hl a cap ho ha hadm V' hV h6 => put_end w w5 w6 h hK hb x hmay kk hkk l hl a cap ho ha hadm V' hV h6)
    have HE1 : Hid (∀ {o : Int}, ord x.ep x.sq V.k.ep V.k.sq = o → o ≤ 0 → putE G.nb G.N V x = 1) := Lib.hid (fun h1 h2 => by unfold putE; rw [if_neg (by rw [hc]; simp), if_pos (by omega)])
    have HE2 : Hid (0 < ord x.ep x.sq V.k.ep V.k.sq → fullV G.nb G.N V x.b → lowest G.nb V.e = none → putE G.nb G.N V x = 12) := Lib.hid (fun h1 h2 h3 => by unfold putE; rw [if_neg (by rw [hc]; simp), if_neg (by omega), if_pos ⟨h2, h3⟩])
    have HE3 : Hid (0 < ord x.ep x.sq V.k.ep V.k.sq → ¬ (fullV G.nb G.N V x.b ∧ lowest G.nb V.e = none) → putE G.nb G.N V x = 0) := Lib.hid (fun h1 h2 => by unfold putE; rw [if_neg (by rw [hc]; simp), if_neg (by omega), if_neg h2])
    have HV0 : Hid (putE G.nb G.N V x ≠ 0 → putVi G.nb G.N V x = V) := Lib.hid putVi_0
    have HV1 : Hid (putE G.nb G.N V x = 0 → ¬ fullV G.nb G.N V x.b → putVi G.nb G.N V x = ⟨runV V.e ([] ++ [(.lay x, kk)]), kk⟩) := Lib.hid (fun h1 h2 => by rw [hkk]; exact putVi_1 h1 h2)
    have HV2 : Hid (putE G.nb G.N V x = 0 → fullV G.nb G.N V x.b → putVi G.nb G.N V x = ⟨runV V.e ([(.drop (lowI G.nb V.e), V.k)] ++ [(.lay x, kk)]), kk⟩) := Lib.hid (fun h1 h2 => by rw [hkk]; exact putVi_2 h1 h2)
    have HAd1 : Hid (¬ fullV G.nb G.N V x.b → Adm G.nb G.N V.e ([] ++ [(.lay x, kk)])) := Lib.hid (fun h1 => by rw [hkk]; exact put_adm1 ok hmay h1)
    have HAd2 : Hid (∀ y, fullV G.nb G.N V x.b → lowest G.nb V.e = some y → Adm G.nb G.N V.e ([(.drop (lowI G.nb V.e), V.k)] ++ [(.lay x, kk)])) := Lib.hid (fun y h1 h2 => by rw [hkk]; exact put_adm2 ok hmay h1 h2)
    clear hkk hmay hEq
    generalize putE G.nb G.N V x = pe at *
    generalize putVi G.nb G.N V x = pv at *
    obtain ⟨xb, xp, xq, xd, xy, xc, xn⟩ := x
    unfold En.val Kp.val at HBh
    unfold En.val at HCh HEnd
    unfold En.val
    simp only at *
    have HB0 := Lib.hid hb0
    have H := Lib.hid h
    have hlook : ∃ lx : La, ∀ w', Below (w.heap.size + 1) (w.alloc (.cells #[.int .i64 xb, .int .i64 xp, .int .i64 xq, .string xd, .bool xy, .int .i64 xc, .int .i64 xn] 37)) w' → (Instr.lookup 90 (.map (some B.mE)) (.int .i64 xb) true).run Tryz.prog w' = .ok (.tuple #[lx.val, .bool (V.e xb).isSome]) w' ∧ ∀ ty, (Builtin.len_ #[90] ty #[.map (some B.mE)]).run Tryz.prog w' = .ok (.int .i64 (num G.nb V.e)) w' := by
      obtain ⟨s, hcg, hv, _⟩ := h
      refine ⟨(s.E xb).getD zeroL, fun w' hb => ?_⟩
      have hc' := hcg.below (hb0.trans (hb.mono (by omega)))
      have h1 := (mapq_look hc'.mp hx0 hx1).1
      have h2 := fun ty => mapq_len hc'.mp hcg.hd.keys ty
      have e : (V.e xb).isSome = (s.E xb).isSome := by rw [← hv]; unfold vis; cases s.E xb <;> rfl
      rw [e]
      rw [hv] at h2
      exact ⟨h1, h2⟩
    obtain ⟨lx, hlook⟩ := hlook
    obtain ⟨⟨lb, lp, lq, ld, ly, lc, ln⟩, lpos⟩ := lx
    unfold La.val at hlook
    simp only at hlook
    have HLk := Lib.hid hlook
    have HA : Hid (∀ w', Below (w.heap.size + 1) (w.alloc (.cells #[.int .i64 xb, .int .i64 xp, .int .i64 xq, .string xd, .bool xy, .int .i64 xc, .int .i64 xn] 37)) w' → (w'.cell? ⟨w.heap.size, 0, none⟩ = some (.int .i64 xb) ∧ w'.cell? ⟨w.heap.size, 1, none⟩ = some (.int .i64 xp) ∧ w'.cell? ⟨w.heap.size, 2, none⟩ = some (.int .i64 xq) ∧ w'.cell? ⟨w.heap.size, 3, none⟩ = some (.string xd) ∧ w'.cell? ⟨w.heap.size, 4, none⟩ = some (.bool xy) ∧ w'.cell? ⟨w.heap.size, 5, none⟩ = some (.int .i64 xc) ∧ w'.cell? ⟨w.heap.size, 6, none⟩ = some (.int .i64 xn) ∧ w'.cell? ⟨B.qB, 4, none⟩ = some (.int .i64 V.k.ep) ∧ w'.cell? ⟨B.qB, 5, none⟩ = some (.int .i64 V.k.sq) ∧ w'.cell? ⟨B.qB, 6, none⟩ = some (.int .i64 V.k.t0) ∧ w'.cell? ⟨B.qB, 7, none⟩ = some (.int .i64 V.k.t1) ∧ w'.cell? ⟨B.qB, 8, none⟩ = some (.int .i64 V.k.t2) ∧ w'.cell? ⟨B.qB, 9, none⟩ = some (.int .i64 V.k.t3)) ∧ w'.cell? ⟨B.qB, 3, none⟩ = some (.map (some B.mE))) := Lib.hid (fun w' hb => by
      have g := (h.below (hb0.trans (hb.mono (by omega)))).qc
      have e : ∀ o, w'.cell? ⟨w.heap.size, o, none⟩ = (w.alloc (.cells #[.int .i64 xb, .int .i64 xp, .int .i64 xq, .string xd, .bool xy, .int .i64 xc, .int .i64 xn] 37)).cell? ⟨w.heap.size, o, none⟩ := fun o => hb.cell (p := ⟨w.heap.size, o, none⟩) (by simp)
      refine ⟨⟨?_, ?_, ?_, ?_, ?_, ?_, ?_, g.p4, g.p5, g.p6, g.p7, g.p8, g.p9⟩, g.p3⟩ <;> (rw [e, World.cell?_alloc_mark]; rfl))
    have HLow : Hid (∀ w', Below w.heap.size w w' → Calls Tryz.prog 50 #[.pointer (some ⟨B.qB, 0, none⟩)] w' fun e w'' => e = .returned (.tuple #[.int .i64 (lowI G.nb V.e), .bool (lowest G.nb V.e).isSome]) ∧ Below w'.heap.size w' w'') := Lib.hid (fun w' hb => lowest_cs w' (h.below hb))
    have HRoom : Hid (∀ w', Below w.heap.size w w' → Calls Tryz.prog 24 #[.pointer (some ⟨B.qB, 0, none⟩)] w' fun e w'' => e = .returned (.int .i64 ((G.N - 6 : Nat) : Int)) ∧ w' = w'') := Lib.hid (fun w' hb => room_cs w' (h.below hb))
    have HSame : Hid (∀ w', Below w.heap.size w w' → After w B G V (K + 2002) w') := Lib.hid (fun w' hb => After.same h hb (by omega))
    have HW : Hid (∀ w', Below (w.heap.size + 1) (w.alloc (.cells #[.int .i64 xb, .int .i64 xp, .int .i64 xq, .string xd, .bool xy, .int .i64 xc, .int .i64 xn] 37)) w' → Below w.heap.size w w') := Lib.hid (fun w' hb => hb0.trans (hb.mono (by omega)))
    have hroomI : ((G.N - 6 : Nat) : Int) = (G.N : Int) - 6 := by have := ok.n8; omega
    have hnI : (num G.nb V.e : Int) ≤ 32 := by omega
    have HFull : Hid (fullV G.nb G.N V xb ↔ V.e xb = none ∧ G.N - 6 ≤ num G.nb V.e) := Lib.hid Iff.rfl
    have hsz0 : (w.alloc (.cells #[.int .i64 xb, .int .i64 xp, .int .i64 xq, .string xd, .bool xy, .int .i64 xc, .int .i64 xn] 37)).heap.size = w.heap.size + 1 := by simp
    rw [hsz0] at HCh
    clear h hK hx0 hx1 ok hnum hN hc hb0 hlook
    go_enter Tryz.func23, Tryz.ntmps23
    go_wp2_with (go_at_call 48; with_reducible refine HCh.out.mono ?_; rintro e w1 ⟨rfl, hb1⟩
                 have HB1 : Hid (Below (w.heap.size + 1) (w.alloc (.cells #[.int .i64 xb, .int .i64 xp, .int .i64 xq, .string xd, .bool xy, .int .i64 xc, .int .i64 xn] 37)) w1) := Lib.hid hb1
                 clear hb1)
    have HS1 := Lib.hid (HA.out w1.drew HB1.out.drew).1
    have HS4 : Hid (w1.drew.cell? ⟨w.heap.size, 1, none⟩ = some (.int .i64 xp) ∧ w1.drew.cell? ⟨w.heap.size, 2, none⟩ = some (.int .i64 xq) ∧ w1.drew.cell? ⟨B.qB, 4, none⟩ = some (.int .i64 V.k.ep) ∧ w1.drew.cell? ⟨B.qB, 5, none⟩ = some (.int .i64 V.k.sq)) := Lib.hid ⟨HS1.out.2.1, HS1.out.2.2.1, HS1.out.2.2.2.2.2.2.2.1, HS1.out.2.2.2.2.2.2.2.2.1⟩
    go_region_held3 (fun w' => w'.cell? ⟨w.heap.size, 1, none⟩ = some (.int .i64 xp) ∧ w'.cell? ⟨w.heap.size, 2, none⟩ = some (.int .i64 xq) ∧ w'.cell? ⟨B.qB, 4, none⟩ = some (.int .i64 V.k.ep) ∧ w'.cell? ⟨B.qB, 5, none⟩ = some (.int .i64 V.k.sq))
      (first
        | exact HS4.out
        | exact HS5.out)
      (first
        | (go_at_call 49; with_reducible refine (order_q _ _ _ _ _).mono ?_; rintro e w2 ⟨rfl, hb2⟩
           have HB2 : Hid (Below (w.heap.size + 1) (w.alloc (.cells #[.int .i64 xb, .int .i64 xp, .int .i64 xq, .string xd, .bool xy, .int .i64 xc, .int .i64 xn] 37)) w2) := Lib.hid ((HB1.out.drew).trans (hb2.mono (by have := HB1.out.size; simp at this; exact this)))
           have HS2 := Lib.hid (HA.out w2 HB2.out).1
           have HS5 : Hid (w2.cell? ⟨w.heap.size, 1, none⟩ = some (.int .i64 xp) ∧ w2.cell? ⟨w.heap.size, 2, none⟩ = some (.int .i64 xq) ∧ w2.cell? ⟨B.qB, 4, none⟩ = some (.int .i64 V.k.ep) ∧ w2.cell? ⟨B.qB, 5, none⟩ = some (.int .i64 V.k.sq)) := Lib.hid ⟨HS2.out.2.1, HS2.out.2.2.1, HS2.out.2.2.2.2.2.2.2.1, HS2.out.2.2.2.2.2.2.2.2.1⟩
           clear hb2))
    clear HS1 HS4 HS2 HS5
    by_cases ho : ord xp xq V.k.ep V.k.sq ≤ 0
    · have he := HE1.out rfl ho
      have hv := HV0.out (by rw [he]; decide)
      have HEV := Lib.hid (And.intro he hv)
      have ho1 := ho
      clear he hv
      go_wp2_with fail
      go_ret
      rw [HEV.out.1, HEV.out.2]
      exact ⟨rfl, HSame.out _ (HW.out _ HB2.out)⟩
    · have HO : Hid (0 < ord xp xq V.k.ep V.k.sq) := Lib.hid (by omega)
      have ho1 := ho
      have hx2 := HA.out w2.drew HB2.out.drew
      have hx3 := HA.out (w2.alloc (.cells #[.int .i64 0, .int .i64 0, .int .i64 0, .string ⟨#[]⟩, .bool false, .int .i64 0, .int .i64 0, .int .i64 0] 108)).drew ((HB2.out.alloc (by have := HB2.out.size; simp at this; exact this) _).drew)
      have hx4 := HA.out (w2.alloc (.cells #[.int .i64 lb, .int .i64 lp, .int .i64 lq, .string ld, .bool ly, .int .i64 lc, .int .i64 ln, .int .i64 lpos] 108)).drew ((HB2.out.alloc (by have := HB2.out.size; simp at this; exact this) _).drew)
      have hl2 := (HLk.out w2.drew HB2.out.drew).1
      have hl3 := (HLk.out (w2.alloc (.cells #[.int .i64 0, .int .i64 0, .int .i64 0, .string ⟨#[]⟩, .bool false, .int .i64 0, .int .i64 0, .int .i64 0] 108)).drew ((HB2.out.alloc (by have := HB2.out.size; simp at this; exact this) _).drew)).1
      have hl4 := (HLk.out (w2.alloc (.cells #[.int .i64 lb, .int .i64 lp, .int .i64 lq, .string ld, .bool ly, .int .i64 lc, .int .i64 ln, .int .i64 lpos] 108)).drew ((HB2.out.alloc (by have := HB2.out.size; simp at this; exact this) _).drew)).1
      have HS2 := Lib.hid (And.intro hx2.2 (And.intro hx2.1.1 hl2))
      have HS3 := Lib.hid (And.intro hx3.2 (And.intro hx3.1.1 hl3))
      have HS4 := Lib.hid (And.intro hx4.2 (And.intro hx4.1.1 hl4))
      have HB3 : Hid (Below (w.heap.size + 1) (w.alloc (.cells #[.int .i64 xb, .int .i64 xp, .int .i64 xq, .string xd, .bool xy, .int .i64 xc, .int .i64 xn] 37)) (w2.alloc (.cells #[.int .i64 lb, .int .i64 lp, .int .i64 lq, .string ld, .bool ly, .int .i64 lc, .int .i64 ln, .int .i64 lpos] 108)).drew) := Lib.hid ((HB2.out.alloc (by have := HB2.out.size; simp at this; exact this) _).drew)
      clear hx2 hx3 hx4 hl2 hl3 hl4 ho
      go_wp2_with fail
      go_cut [6, 7, 8] (fun s6 _ hs wx => hs = .bool (V.e xb).isSome ∧ (∃ aN cN, s6 = .slice aN 0 cN ∧ Hid (aN = none ∧ cN = 0)) ∧ Below (w.heap.size + 1) (w.alloc (.cells #[.int .i64 xb, .int .i64 xp, .int .i64 xq, .string xd, .bool xy, .int .i64 xc, .int .i64 xn] 37)) wx)
      case first =>
        go_region_held3 (fun w' => w'.cell? ⟨B.qB, 3, none⟩ = some (.map (some B.mE)) ∧ w'.cell? ⟨w.heap.size, 0, none⟩ = some (.int .i64 xb) ∧ (Instr.lookup 90 (.map (some B.mE)) (.int .i64 xb) true).run Tryz.prog w' = .ok (.tuple #[.agg #[.int .i64 lb, .int .i64 lp, .int .i64 lq, .string ld, .bool ly, .int .i64 lc, .int .i64 ln, .int .i64 lpos], .bool (V.e xb).isSome]) w')
          (first
            | exact HS2.out
            | exact HS3.out
            | exact HS4.out)
          (first | fail)
        all_goals
          go_wp2_with fail
          go_meet
          exact ⟨rfl, ⟨none, 0, rfl, Lib.hid ⟨rfl, rfl⟩⟩, HB3.out⟩
      case rest wx =>
        obtain ⟨rfl, ⟨aN, cN, rfl, HNN⟩, hbx⟩ := hcut
        have HOn : Hid (∀ w', OwnD w' aN cN [] ∧ ab aN = [] ∧ ∀ g, aN ≠ some ⟨g, 0, none⟩) := Lib.hid (fun w' => by obtain ⟨rfl, rfl⟩ := HNN.out; exact ⟨OwnD.nil _, rfl, fun g h => by cases h⟩)
        have HBx := Lib.hid hbx
        clear hbx HS2 HS3 HS4 HB3 HB2 HB1
        have hx5 := HA.out wc HBx.out
        have q3 := hx5.2
        have hl5 := (HLk.out wc HBx.out).2
        clear hx5
        by_cases hfull : fullV G.nb G.N V xb
        · have hn : (V.e xb).isSome = false := by rw [hfull.1]; rfl
          have hge : ((G.N - 6 : Nat) : Int) ≤ (num G.nb V.e : Int) := by have := hfull.2; omega
          rw [hn]
          have HFu := Lib.hid hfull
          clear hfull
          cases hlo : lowest G.nb V.e with
          | none =>
            have he := HE2.out HO.out HFu.out hlo
            have hv := HV0.out (by rw [he]; decide)
            have HEV := Lib.hid (And.intro he hv)
            rw [hlo] at HLow
            simp only [Option.isSome_none] at HLow
            clear he hv hlo
            go_wp2_with (first
              | (go_at_call 24; with_reducible refine (HRoom.out _ (HW.out _ HBx.out)).mono ?_; rintro e w' ⟨rfl, rfl⟩)
              | (go_at_call 50; with_reducible refine (HLow.out _ (HW.out _ HBx.out)).mono ?_; rintro e w4 ⟨rfl, hb4⟩; have HB4 := Lib.hid hb4; clear hb4))
            go_ret
            rw [HEV.out.1, HEV.out.2]
            exact ⟨rfl, HSame.out _ ((HW.out _ HBx.out).trans (HB4.out.mono (HW.out _ HBx.out).size))⟩
          | some y =>
            have he := HE3.out HO.out (by rw [hlo]; simp)
            have hv := HV2.out he HFu.out
            have HEV := Lib.hid (And.intro he hv)
            have HAd := Lib.hid (HAd2.out y HFu.out hlo)
            rw [hlo] at HLow
            simp only [Option.isSome_some] at HLow
            clear he hv hlo
            go_wp2_with (first
              | (go_at_call 24; with_reducible refine (HRoom.out _ (HW.out _ HBx.out)).mono ?_; rintro e w' ⟨rfl, rfl⟩)
              | (go_at_call 50; with_reducible refine (HLow.out _ (HW.out _ HBx.out)).mono ?_; rintro e w4 ⟨rfl, hb4⟩
                 have HB4 : Hid (Below (w.heap.size + 1) (w.alloc (.cells #[.int .i64 xb, .int .i64 xp, .int .i64 xq, .string xd, .bool xy, .int .i64 xc, .int .i64 xn] 37)) w4) := Lib.hid (HBx.out.trans (hb4.mono (by have := HBx.out.size; simp at this; exact this)))
                 have hx6 := HA.out w4 HB4.out
                 obtain ⟨a0, a1, a2, a3, a4, a5, a6, k4, k5, k6, k7, k8, k9⟩ := hx6.1
                 have HRd := Lib.hid (rowD_one w4 (.drop (lowI G.nb V.e)) V.k rfl)
                 have HNl := Lib.hid (HOn.out (w4.alloc (.cells #[.iface 115 (.agg #[.int .i64 (lowI G.nb V.e)]), .int .i64 V.k.ep, .int .i64 V.k.sq, .int .i64 V.k.t0, .int .i64 V.k.t1, .int .i64 V.k.t2, .int .i64 V.k.t3] 98))).1
                 have HB4a : Hid (Below (w.heap.size + 1) (w.alloc (.cells #[.int .i64 xb, .int .i64 xp, .int .i64 xq, .string xd, .bool xy, .int .i64 xc, .int .i64 xn] 37)) (w4.alloc (.cells #[.iface 115 (.agg #[.int .i64 (lowI G.nb V.e)]), .int .i64 V.k.ep, .int .i64 V.k.sq, .int .i64 V.k.t0, .int .i64 V.k.t1, .int .i64 V.k.t2, .int .i64 V.k.t3] 98))) := Lib.hid (HB4.out.alloc (by have := HB4.out.size; simp at this; exact this) _)
                 clear hb4 hx6)
              | (at_builtin
                 refine wpList_append_rec7 _ rfl (.tmp 55) (.tmp 64) rfl aN 0 cN [] rfl rfl HNl.out _ 1 (.drop (lowI G.nb V.e)) V.k rfl HRd.out (by decide) ?_
                 intro b5 cap5 w5 ho5 hb5 hbu5
                 have HO5 := Lib.hid ho5
                 have HB5 : Hid (Below (w.heap.size + 1) (w.alloc (.cells #[.int .i64 xb, .int .i64 xp, .int .i64 xq, .string xd, .bool xy, .int .i64 xc, .int .i64 xn] 37)) w5) := Lib.hid (HB4a.out.trans (hbu5.to_below (by rw [(HOn.out w5).2.1]; simp) (by have := HB4a.out.size; simp at this ⊢; omega)))
                 have hb5w : w.heap.size ≤ b5 := by
                   rcases hb5 with z | z
                   · exact absurd z ((HOn.out w5).2.2 b5)
                   · have := HB4a.out.size; simp at this z; omega
                 have Hb5w := Lib.hid hb5w
                 clear ho5 hb5 hbu5 a0 a1 a2 a3 a4 a5 a6 k4 k5 k6 k7 k8 k9 hb5w))
            have HT : Hid (∀ w6, Below w5.heap.size w5 w6 → _) := Lib.hid (fun w6 h6 => HEnd.out w5 w6 (HW.out _ HB5.out) [(.drop (lowI G.nb V.e), V.k)] (by simp) (some ⟨b5, 0, none⟩) cap5 HO5.out (fun g hg => by injection hg with hg; injection hg with hg; rw [← hg]; exact Hb5w.out) HAd.out pv HEV.out.2 h6)
            have HA2 : Hid (∀ w6, Below w5.heap.size w5 w6 → w6.cell? ⟨w.heap.size, 0, none⟩ = some (.int .i64 xb) ∧ w6.cell? ⟨w.heap.size, 1, none⟩ = some (.int .i64 xp) ∧ w6.cell? ⟨w.heap.size, 2, none⟩ = some (.int .i64 xq) ∧ w6.cell? ⟨w.heap.size, 3, none⟩ = some (.string xd) ∧ w6.cell? ⟨w.heap.size, 4, none⟩ = some (.bool xy) ∧ w6.cell? ⟨w.heap.size, 5, none⟩ = some (.int .i64 xc) ∧ w6.cell? ⟨w.heap.size, 6, none⟩ = some (.int .i64 xn)) := Lib.hid (fun w6 h6 => by
              obtain ⟨a0, a1, a2, a3, a4, a5, a6, _⟩ := (HA.out w6 (HB5.out.trans (h6.mono (by have := HB5.out.size; simp at this; exact this)))).1
              exact ⟨a0, a1, a2, a3, a4, a5, a6⟩)
            have HS5 := HA.out w5 HB5.out
            obtain ⟨a0, a1, a2, a3, a4, a5, a6, k4, k5, k6, k7, k8, k9⟩ := HS5.1
            clear HS5
            go_region_law ((first
              | (refine step_append_rec7 _ rfl (.tmp 67) (.tmp 77) rfl _ 1 _ [(.drop (lowI G.nb V.e), V.k)] rfl rfl HOD7.out _ 1 (.lay ⟨xb, xp, xq, xd, xy, xc, xn⟩) kk rfl HRD7.out (by simp) ?_
                 intro b9 cap9 w9 ho9 hb9 hbu9
                 have HC9 : Hid (Calls Tryz.prog 51 #[.pointer (some ⟨B.qB, 0, none⟩), .slice (some ⟨b9, 0, none⟩) 2 cap9] w9 fun e w' => e = .returned (.int .i64 0) ∧ After w B G pv (K + 2002) w') := Lib.hid (HBr.out b9 cap9 w9 ho9 hb9 hbu9)
                 clear ho9 hb9 hbu9)
              | (go_simp
                 go_at_call 52
                 with_reducible refine (HBh.out _).mono ?_
                 rintro e w6 ⟨rfl, hb6⟩
                 have hB6 : Below w5.heap.size w5 w6 := ((Below.refl _ _).drew).trans hb6
                 have HOD7 := Lib.hid (HT.out w6 hB6).1
                 have HRD7 := Lib.hid (HT.out w6 hB6).2.1
                 have HBr := Lib.hid (HT.out w6 hB6).2.2
                 obtain ⟨a0, a1, a2, a3, a4, a5, a6⟩ := HA2.out w6 hB6
                 clear hb6 hB6)
              | (go_simp
                 go_at_call 51
                 with_reducible refine HC9.out.mono ?_
                 rintro e w10 ⟨rfl, h10⟩
                 have H10 := Lib.hid h10
                 clear h10)))
            all_goals
              go_wp2_with fail
              go_ret
              rw [HEV.out.1]
              exact ⟨rfl, H10.out⟩
        · have he := HE3.out HO.out (fun z => hfull z.1)
          have hv := HV1.out he hfull
          have HEV := Lib.hid (And.intro he hv)
          have HAd := Lib.hid (HAd1.out hfull)
          have HT : Hid (∀ w6, Below wc.heap.size wc w6 → _) := Lib.hid (fun w6 h6 => HEnd.out wc w6 (HW.out _ HBx.out) [] (by simp) aN cN (HOn.out wc).1 (fun g hg => absurd hg ((HOn.out wc).2.2 g)) HAd.out pv HEV.out.2 h6)
          have HA2 : Hid (∀ w6, Below wc.heap.size wc w6 → w6.cell? ⟨w.heap.size, 0, none⟩ = some (.int .i64 xb) ∧ w6.cell? ⟨w.heap.size, 1, none⟩ = some (.int .i64 xp) ∧ w6.cell? ⟨w.heap.size, 2, none⟩ = some (.int .i64 xq) ∧ w6.cell? ⟨w.heap.size, 3, none⟩ = some (.string xd) ∧ w6.cell? ⟨w.heap.size, 4, none⟩ = some (.bool xy) ∧ w6.cell? ⟨w.heap.size, 5, none⟩ = some (.int .i64 xc) ∧ w6.cell? ⟨w.heap.size, 6, none⟩ = some (.int .i64 xn)) := Lib.hid (fun w6 h6 => by
            obtain ⟨a0, a1, a2, a3, a4, a5, a6, _⟩ := (HA.out w6 (HBx.out.trans (h6.mono (by have := HBx.out.size; simp at this; exact this)))).1
            exact ⟨a0, a1, a2, a3, a4, a5, a6⟩)
          clear he hv
          cases hs : (V.e xb).isSome with
          | true =>
            clear hfull
            go_wp2_with fail
            have HS5 := HA.out wc HBx.out
            obtain ⟨a0, a1, a2, a3, a4, a5, a6, k4, k5, k6, k7, k8, k9⟩ := HS5.1
            clear HS5
            go_region_law ((first
              | (refine step_append_rec7 _ rfl (.tmp 67) (.tmp 77) rfl _ 0 _ [] rfl rfl HOD7.out _ 1 (.lay ⟨xb, xp, xq, xd, xy, xc, xn⟩) kk rfl HRD7.out (by simp) ?_
                 intro b9 cap9 w9 ho9 hb9 hbu9
                 have HC9 : Hid (Calls Tryz.prog 51 #[.pointer (some ⟨B.qB, 0, none⟩), .slice (some ⟨b9, 0, none⟩) 1 cap9] w9 fun e w' => e = .returned (.int .i64 0) ∧ After w B G pv (K + 2002) w') := Lib.hid (HBr.out b9 cap9 w9 ho9 hb9 hbu9)
                 clear ho9 hb9 hbu9)
              | (go_simp
                 go_at_call 52
                 with_reducible refine (HBh.out _).mono ?_
                 rintro e w6 ⟨rfl, hb6⟩
                 have hB6 : Below wc.heap.size wc w6 := ((Below.refl _ _).drew).trans hb6
                 have HOD7 := Lib.hid (HT.out w6 hB6).1
                 have HRD7 := Lib.hid (HT.out w6 hB6).2.1
                 have HBr := Lib.hid (HT.out w6 hB6).2.2
                 obtain ⟨a0, a1, a2, a3, a4, a5, a6⟩ := HA2.out w6 hB6
                 clear hb6 hB6)
              | (go_simp
                 go_at_call 51
                 with_reducible refine HC9.out.mono ?_
                 rintro e w10 ⟨rfl, h10⟩
                 have H10 := Lib.hid h10
                 clear h10)))
            all_goals
              go_wp2_with fail
              go_ret
              rw [HEV.out.1]
              exact ⟨rfl, H10.out⟩
          | false =>
            have hnone : V.e xb = none := by cases hz : V.e xb with
              | none => rfl
              | some z => rw [hz] at hs; cases hs
            have hlt : ¬ (((G.N - 6 : Nat) : Int) ≤ (num G.nb V.e : Int)) := fun z => hfull ⟨hnone, by omega⟩
            clear hfull hnone
            go_wp2_with (go_at_call 24; with_reducible refine (HRoom.out _ (HW.out _ HBx.out)).mono ?_; rintro e w' ⟨rfl, rfl⟩)
            have HS5 := HA.out wc HBx.out
            obtain ⟨a0, a1, a2, a3, a4, a5, a6, k4, k5, k6, k7, k8, k9⟩ := HS5.1
            clear HS5
            go_region_law ((first
              | (refine step_append_rec7 _ rfl (.tmp 67) (.tmp 77) rfl _ 0 _ [] rfl rfl HOD7.out _ 1 (.lay ⟨xb, xp, xq, xd, xy, xc, xn⟩) kk rfl HRD7.out (by simp) ?_
                 intro b9 cap9 w9 ho9 hb9 hbu9
                 have HC9 : Hid (Calls Tryz.prog 51 #[.pointer (some ⟨B.qB, 0, none⟩), .slice (some ⟨b9, 0, none⟩) 1 cap9] w9 fun e w' => e = .returned (.int .i64 0) ∧ After w B G pv (K + 2002) w') := Lib.hid (HBr.out b9 cap9 w9 ho9 hb9 hbu9)
                 clear ho9 hb9 hbu9)
              | (go_simp
                 go_at_call 52
                 with_reducible refine (HBh.out _).mono ?_
                 rintro e w6 ⟨rfl, hb6⟩
                 have hB6 : Below wc.heap.size wc w6 := ((Below.refl _ _).drew).trans hb6
                 have HOD7 := Lib.hid (HT.out w6 hB6).1
                 have HRD7 := Lib.hid (HT.out w6 hB6).2.1
                 have HBr := Lib.hid (HT.out w6 hB6).2.2
                 obtain ⟨a0, a1, a2, a3, a4, a5, a6⟩ := HA2.out w6 hB6
                 clear hb6 hB6)
              | (go_simp
                 go_at_call 51
                 with_reducible refine HC9.out.mono ?_
                 rintro e w10 ⟨rfl, h10⟩
                 have H10 := Lib.hid h10
                 clear h10)))
            all_goals
              go_wp2_with fail
              go_ret
              rw [HEV.out.1]
              exact ⟨rfl, H10.out⟩
  · have he : putE G.nb G.N V x = checkE G.nb x := by unfold putE; rw [if_pos hc]
    have hv : putVi G.nb G.N V x = V := by unfold putVi; rw [if_pos (by rw [he]; exact hc)]
    rw [he, hv]
    have hne : (checkE G.nb x != 0) = true := by simpa using hc
    have HB0 := Lib.hid hb0
    have H := Lib.hid h
    have HKk := Lib.hid hK
    generalize checkE G.nb x = ce at *
    obtain ⟨xb, xp, xq, xd, xy, xc, xn⟩ := x
    unfold En.val at HCh
    unfold En.val
    simp only at *
    clear h hK hx0 hx1 ok hnum hN hb0 he hv hc hEq
    go_enter Tryz.func23, Tryz.ntmps23
    go_wp2_with (go_at_call 48; with_reducible refine HCh.out.mono ?_; rintro e w1 ⟨rfl, hb1⟩; have HB1 : Hid (Below w.heap.size w w1) := Lib.hid (HB0.out.trans (hb1.mono HB0.out.size)); clear hb1)
    go_ret
    exact ⟨rfl, After.same H.out HB1.out (by omega)⟩
end Q
end Go.Proofs.YtmcalgnpinolmaaGreat
