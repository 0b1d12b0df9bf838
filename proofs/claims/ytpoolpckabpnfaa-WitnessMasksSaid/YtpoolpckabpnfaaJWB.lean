/-
  What the cell's text says, as the program reads it.
  What is known is put.
  Masks of nodes as the program reckons them.
-/
import Derived.Test.YtpoolpckabpnfaaJWA
import Derived.Test.YtpoolpckabpnfaaMlDec
import Derived.BigQuiet
import Derived.BigRegion
import Derived.StillTailTactics
import Derived.Deep.RegionHeld3
import Derived.Deep.RegionLaw
namespace Go.Proofs.Ytpoolpckabpnfaa.Wt
open Go.RowKit
open Ml (Mg may)
open C (RecAt RecOwn zeroRec)
set_option linter.unusedVariables false
set_option linter.unusedSimpArgs false
set_option maxRecDepth 20000

variable {dB sB mB n : Nat} {d : M.Dv}

theorem within_any (x l m : Int) (w : World) : Calls Try.prog 24 #[.int .i64 x, .int .i64 l, .int .i64 m] w fun e w' => e = .returned (.bool (decide (l ≤ x) && decide (x ≤ m))) ∧ w = w' := by
  by_cases h1 : l ≤ x
  · go_enter Try.func24, Try.ntmps24
    go_wp2
    go_ret
    exact ⟨by simp [h1], rfl⟩
  · go_enter Try.func24, Try.ntmps24
    go_wp2
    go_ret
    exact ⟨by rw [decide_eq_false (show ¬ l ≤ x by omega)]; rfl, rfl⟩
theorem node_any (x : Int) (w : World) : Calls Try.prog 30 #[.int .i64 x] w fun e w' => e = .returned (.bool (isNode x)) ∧ w = w' := by
  by_cases h1 : 0 ≤ x
  · go_enter Try.func30, Try.ntmps30
    go_wp2
    go_ret
    exact ⟨by simp [isNode, h1], rfl⟩
  · go_enter Try.func30, Try.ntmps30
    go_wp2
    go_ret
    exact ⟨by unfold isNode; rw [decide_eq_false (show ¬ 0 ≤ x by omega)]; rfl, rfl⟩

theorem may_no4 (w : World) {a : Option Addr} {nN c : Nat} (hn : nN ≠ 4) : Calls Try.prog 38 #[.slice a nN c] w fun e w' => e = .returned (.bool false) ∧ w = w' := by
  have h4 : ((nN : Int) == 4) = false := by rw [beq_eq_false_iff_ne]; omega
  have h4' : ¬ (nN : Int) = 4 := by omega
  go_enter Try.func38, Try.ntmps38
  go_wp2
  go_ret
  exact ⟨rfl, rfl⟩
theorem may_4 (w : World) {b c : Nat} {x0 x1 x2 x3 : Int} (hc : 4 ≤ c) (h0 : w.cell? ⟨b, 0, none⟩ = some (.int .i64 x0)) (h1 : w.cell? ⟨b, 1, none⟩ = some (.int .i64 x1)) (h2 : w.cell? ⟨b, 2, none⟩ = some (.int .i64 x2)) (h3 : w.cell? ⟨b, 3, none⟩ = some (.int .i64 x3)) :
    Calls Try.prog 38 #[.slice (some ⟨b, 0, none⟩) 4 c] w fun e w' => e = .returned (.bool (decide (Fx.mk x0 x1 x2 x3).Ok)) ∧ w = w' := by
  have H0 := within_any x0 0 4611686018427387904 w
  have H1 := within_any x1 (-1) 1 w
  have H2 := within_any x2 1 3 w
  have H3 := within_any x3 0 4611686018427387904 w
  have HE : decide (Fx.mk x0 x1 x2 x3).Ok = ((decide (0 ≤ x0) && decide (x0 ≤ 4611686018427387904)) && ((decide (-1 ≤ x1) && decide (x1 ≤ 1)) && ((decide (1 ≤ x2) && decide (x2 ≤ 3)) && (decide (0 ≤ x3) && decide (x3 ≤ 4611686018427387904))))) := by
    rw [Bool.eq_iff_iff]
    simp [Fx.Ok, big, and_assoc]
  rw [HE]
  clear HE
  generalize (decide (0 ≤ x0) && decide (x0 ≤ 4611686018427387904)) = b0 at *
  generalize (decide (-1 ≤ x1) && decide (x1 ≤ 1)) = b1 at *
  generalize (decide (1 ≤ x2) && decide (x2 ≤ 3)) = b2 at *
  generalize (decide (0 ≤ x3) && decide (x3 ≤ 4611686018427387904)) = b3 at *
  have K0 := Lib.hid H0
  have K1 := Lib.hid H1
  have K2 := Lib.hid H2
  have K3 := Lib.hid H3
  clear H0 H1 H2 H3
  have hb : b0 = false ∨ (b0 = true ∧ b1 = false) ∨ (b0 = true ∧ b1 = true ∧ b2 = false) ∨ (b0 = true ∧ b1 = true ∧ b2 = true ∧ b3 = false) ∨ (b0 = true ∧ b1 = true ∧ b2 = true ∧ b3 = true) := by
    cases b0 <;> cases b1 <;> cases b2 <;> cases b3 <;> simp
  rcases hb with rfl | ⟨rfl, rfl⟩ | ⟨rfl, rfl, rfl⟩ | ⟨rfl, rfl, rfl, rfl⟩ | ⟨rfl, rfl, rfl, rfl⟩
  all_goals
    go_enter Try.func38, Try.ntmps38
    go_wp2_with (first
      | (go_at_call 24; with_reducible refine K0.out.mono ?_; rintro e w' ⟨rfl, rfl⟩)
      | (go_at_call 24; with_reducible refine K1.out.mono ?_; rintro e w' ⟨rfl, rfl⟩)
      | (go_at_call 24; with_reducible refine K2.out.mono ?_; rintro e w' ⟨rfl, rfl⟩)
      | (go_at_call 24; with_reducible refine K3.out.mono ?_; rintro e w' ⟨rfl, rfl⟩))
    go_ret
    exact ⟨rfl, rfl⟩

/-! ## the state -/
def fxV (x : Fx) : Value := .agg #[.int .i64 x.ep, .int .i64 x.ho, .int .i64 x.ma, .int .i64 x.ch]
def fxC (x : Fx) : Array Value := #[.int .i64 x.ep, .int .i64 x.ho, .int .i64 x.ma, .int .i64 x.ch]
theorem bx_bo {w : World} {cs : Array Value} {t : TypeId} {w' : World} (h : C.Bx w (.cells cs t) w') : Bo w' w.heap.size cs t := by
  have h2 : Below (w.heap.size + 1) (w.alloc (.cells cs t)) w' := h
  exact (Bo.new w cs t).below h2 (by omega)
theorem below4 {B g : Nat} {w0 w : World} (h : Below B w0 w) (hg : B ≤ g) (v0 v1 v2 v3 : Value) : Below B w0 ((((w.setCell ⟨g, 0, none⟩ v0).setCell ⟨g, 1, none⟩ v1).setCell ⟨g, 2, none⟩ v2).setCell ⟨g, 3, none⟩ v3) :=
  (((h.setCell hg _).setCell hg _).setCell hg _).setCell hg _
/-- the box of the result, behind a decode -/
theorem sta_box {w : World} {s : ByteArray} {w1 : World} (hb : Below (Lib.bytesWorld (w.alloc (.cells #[.int .i64 0, .int .i64 0, .int .i64 0, .int .i64 0] 58)) 5 s).heap.size (Lib.bytesWorld (w.alloc (.cells #[.int .i64 0, .int .i64 0, .int .i64 0, .int .i64 0] 58)) 5 s) w1) (rec : Array Value) :
    Bo (w1.alloc (.cells rec 86)) w.heap.size #[.int .i64 0, .int .i64 0, .int .i64 0, .int .i64 0] 58 ∧ Below w.heap.size w (w1.alloc (.cells rec 86)) := by
  have h1 := Ml.bytes_below (w.alloc (.cells #[.int .i64 0, .int .i64 0, .int .i64 0, .int .i64 0] 58)) s
  have h2 := h1.trans (hb.mono h1.size)
  have h3 := h2.alloc h2.size (.cells rec 86)
  have hs : (w.alloc (.cells #[.int .i64 0, .int .i64 0, .int .i64 0, .int .i64 0] 58)).heap.size = w.heap.size + 1 := by simp
  exact ⟨(Bo.new w _ _).below h3 (by rw [hs]; omega), ((Below.refl w.heap.size w).alloc (Nat.le_refl _) _).trans (h3.mono (by rw [hs]; omega))⟩

theorem fx_none {s : ByteArray} (hd : C.M.dec s.data.toList = none) : fx s = Fx.zero := by unfold fx; rw [hd]; rfl
theorem fx_bad {s : ByteArray} {r : C.M.Rc} (hd : C.M.dec s.data.toList = some r) (h : ¬ recOk r) : fx s = Fx.zero := by unfold fx; rw [hd]; simp only [fxR]; rw [if_neg h]
theorem fx_good {s : ByteArray} {r : C.M.Rc} (hd : C.M.dec s.data.toList = some r) (h : recOk r) : fx s = fxN r.nums := by unfold fx; rw [hd]; simp only [fxR]; rw [if_pos h]

/-- a decode of the cell's text: what the record's kind and lengths are -/
theorem dec_kind (w : World) (s : ByteArray) (hs : s.size ≤ 65536) (kd : Int) (hk : (C.M.dec s.data.toList = none ∧ kd = 0) ∨ ∃ r, C.M.dec s.data.toList = some r ∧ kd = r.kind) :
    Calls Try.prog 36 #[.slice (some ⟨w.heap.size, 0, none⟩) s.size (grownCap w s.size 0 5)] (Lib.bytesWorld w 5 s) fun e w' => ∃ aN nN cN aT nT cT e0, e = .returned (.tuple #[.agg #[.int .i64 kd, .slice aN nN cN, .slice aT nT cT], .int .i64 e0]) ∧ Below (Lib.bytesWorld w 5 s).heap.size (Lib.bytesWorld w 5 s) w' := by
  rcases hk with ⟨hd, rfl⟩ | ⟨r, hd, rfl⟩
  · refine (C.decode_no (Lib.bytesWorld w 5 s) _ _ _ _ (Ml.bytes_row w s hs) hd).mono ?_
    rintro e w' ⟨rfl, hb⟩
    exact ⟨_, _, _, _, _, _, _, rfl, hb⟩
  · refine (C.decode_ok (Lib.bytesWorld w 5 s) _ _ _ _ r (Ml.bytes_row w s hs) hd).mono ?_
    rintro e w' ⟨aN, nN, cN, aT, nT, cT, rfl, _, hb⟩
    exact ⟨_, _, _, _, _, _, _, rfl, hb⟩

set_option maxHeartbeats 2000000 in
theorem state_kind (w : World) {tB cB a b : Nat} {c : M.Cl} {L W : Int} (h : WS w dB sB mB n d tB cB a b c L W) (kd : Int) (hk : (C.M.dec c.text.data.toList = none ∧ kd = 0) ∨ ∃ r, C.M.dec c.text.data.toList = some r ∧ kd = r.kind) (h40 : kd ≠ 40) :
    Calls Try.prog 23 #[.pointer (some ⟨tB, 0, none⟩)] w fun e w' => e = .returned (fxV Fx.zero) ∧ Below w.heap.size w w' := by
  have h1 := h.below ((Below.refl w.heap.size w).alloc (Nat.le_refl _) (.cells #[.int .i64 0, .int .i64 0, .int .i64 0, .int .i64 0] 58))
  have q0 := h1.q0
  have HG := Lib.hid (get_any _ h1.cel)
  have htx := h.tx
  have hD := dec_kind (w.alloc (.cells #[.int .i64 0, .int .i64 0, .int .i64 0, .int .i64 0] 58)) c.text (by omega) kd hk
  rw [show (w.alloc (.cells #[.int .i64 0, .int .i64 0, .int .i64 0, .int .i64 0] 58)).heap.size = w.heap.size + 1 by simp] at hD
  have kc := Ml.conv_str (w.alloc (.cells #[.int .i64 0, .int .i64 0, .int .i64 0, .int .i64 0] 58)) c.text
  have HD := Lib.hid hD
  have hne : ((kd : Int) != 40) = true := by rw [bne_iff_ne]; exact h40
  clear hD h h1 htx hk h40
  generalize c.text = s at *
  go_enter Try.func23, Try.ntmps23
  go_wp2_with (first
    | (go_at_call 37; with_reducible refine HG.out.mono ?_; rintro e w1 ⟨rfl, rfl⟩)
    | (go_at_call 36; with_reducible refine HD.out.mono ?_; rintro e1 w1 ⟨aN, nN, cN, aT, nT, cT, e0, rfl, hb⟩
       have HX := Lib.hid (sta_box hb #[.int .i64 kd, .slice aN nN cN, .slice aT nT cT])
       have z0 := HX.out.1.cell 0
       have z1 := HX.out.1.cell 1
       have z2 := HX.out.1.cell 2
       have z3 := HX.out.1.cell 3
       have zf := HX.out.1.fz
       clear hb))
  refine bodyPost_ret (v := fxV Fx.zero) (by simp [results, Try.results23, go_sem, fxV, Fx.zero, z0, z1, z2, z3]) rfl ⟨rfl, ?_⟩
  exact below4 HX.out.2 (Nat.le_refl _) _ _ _ _

set_option maxHeartbeats 2000000 in
theorem state_texts (w : World) {tB cB a b : Nat} {c : M.Cl} {L W : Int} (h : WS w dB sB mB n d tB cB a b c L W) {r : C.M.Rc} (hd : C.M.dec c.text.data.toList = some r) (hk : r.kind = 40) (ht : r.texts.length ≠ 0) :
    Calls Try.prog 23 #[.pointer (some ⟨tB, 0, none⟩)] w fun e w' => e = .returned (fxV Fx.zero) ∧ Below w.heap.size w w' := by
  have h1 := h.below ((Below.refl w.heap.size w).alloc (Nat.le_refl _) (.cells #[.int .i64 0, .int .i64 0, .int .i64 0, .int .i64 0] 58))
  have q0 := h1.q0
  have HG := Lib.hid (get_any _ h1.cel)
  have htx := h.tx
  have hD := C.decode_ok (Lib.bytesWorld (w.alloc (.cells #[.int .i64 0, .int .i64 0, .int .i64 0, .int .i64 0] 58)) 5 c.text) _ _ _ _ r (Ml.bytes_row (w.alloc (.cells #[.int .i64 0, .int .i64 0, .int .i64 0, .int .i64 0] 58)) c.text (by omega)) hd
  rw [show (w.alloc (.cells #[.int .i64 0, .int .i64 0, .int .i64 0, .int .i64 0] 58)).heap.size = w.heap.size + 1 by simp, hk] at hD
  have kc := Ml.conv_str (w.alloc (.cells #[.int .i64 0, .int .i64 0, .int .i64 0, .int .i64 0] 58)) c.text
  have HLen : Hid (∀ w' B aN nN cN aT nT cT, RecOwn w' B r aN nN cN aT nT cT → nT = r.texts.length) := Lib.hid fun _ _ _ _ _ _ _ _ h => h.at.lenT
  have HD := Lib.hid hD
  clear hD h h1 htx hk hd
  generalize c.text = s at *
  generalize r.texts.length = q at *
  have hne : (((q : Nat) : Int) != 0) = true := by rw [bne_iff_ne]; omega
  clear ht
  go_enter Try.func23, Try.ntmps23
  go_wp2_with (first
    | (go_at_call 37; with_reducible refine HG.out.mono ?_; rintro e w1 ⟨rfl, rfl⟩)
    | (go_at_call 36; with_reducible refine HD.out.mono ?_; rintro e1 w1 ⟨aN, nN, cN, aT, nT, cT, rfl, hr, hb⟩
       obtain rfl := HLen.out _ _ _ _ _ _ _ _ hr
       have HX := Lib.hid (sta_box hb #[.int .i64 40, .slice aN nN cN, .slice aT nT cT])
       have z0 := HX.out.1.cell 0
       have z1 := HX.out.1.cell 1
       have z2 := HX.out.1.cell 2
       have z3 := HX.out.1.cell 3
       have zf := HX.out.1.fz
       clear hb hr))
  refine bodyPost_ret (v := fxV Fx.zero) (by simp [results, Try.results23, go_sem, fxV, Fx.zero, z0, z1, z2, z3]) rfl ⟨rfl, ?_⟩
  exact below4 HX.out.2 (Nat.le_refl _) _ _ _ _

theorem rec_nums {r : C.M.Rc} {x0 x1 x2 x3 : Int} (hs : r.nums = [x0, x1, x2, x3]) {w : World} {B : Nat} {aN : Option Addr} {nN cN : Nat} {aT : Option Addr} {nT cT : Nat} (h : RecOwn w B r aN nN cN aT nT cT) :
    ∃ b, aN = some ⟨b, 0, none⟩ ∧ b < w.heap.size ∧ nN = 4 ∧ 4 ≤ cN ∧ cN ≤ maxLen ∧ w.cell? ⟨b, 0, none⟩ = some (.int .i64 x0) ∧ w.cell? ⟨b, 1, none⟩ = some (.int .i64 x1) ∧ w.cell? ⟨b, 2, none⟩ = some (.int .i64 x2) ∧ w.cell? ⟨b, 3, none⟩ = some (.int .i64 x3) := by
  obtain ⟨hr, ho⟩ := C.own_row h.nums
  have hl := h.at.lenN
  rw [hs] at hl
  obtain rfl : nN = 4 := hl
  obtain ⟨h1, h2, h3, h4⟩ := hr
  rw [hs] at h4
  rcases h4 with h4 | ⟨b, off, ha, hb, hc⟩
  · simp [C.i64s] at h4
  · obtain rfl : off = 0 := (ho b off ha).2
    simp only [Nat.zero_add] at hc
    exact ⟨b, ha, hb, rfl, h2, h3, hc 0 (by omega), hc 1 (by omega), hc 2 (by omega), hc 3 (by omega)⟩

set_option maxHeartbeats 2000000 in
theorem state_no4 (w : World) {tB cB a b : Nat} {c : M.Cl} {L W : Int} (h : WS w dB sB mB n d tB cB a b c L W) {r : C.M.Rc} (hd : C.M.dec c.text.data.toList = some r) (hk : r.kind = 40) (ht : r.texts.length = 0) (hno : r.nums.length ≠ 4) :
    Calls Try.prog 23 #[.pointer (some ⟨tB, 0, none⟩)] w fun e w' => e = .returned (fxV Fx.zero) ∧ Below w.heap.size w w' := by
  have h1 := h.below ((Below.refl w.heap.size w).alloc (Nat.le_refl _) (.cells #[.int .i64 0, .int .i64 0, .int .i64 0, .int .i64 0] 58))
  have q0 := h1.q0
  have HG := Lib.hid (get_any _ h1.cel)
  have htx := h.tx
  have hD := C.decode_ok (Lib.bytesWorld (w.alloc (.cells #[.int .i64 0, .int .i64 0, .int .i64 0, .int .i64 0] 58)) 5 c.text) _ _ _ _ r (Ml.bytes_row (w.alloc (.cells #[.int .i64 0, .int .i64 0, .int .i64 0, .int .i64 0] 58)) c.text (by omega)) hd
  rw [show (w.alloc (.cells #[.int .i64 0, .int .i64 0, .int .i64 0, .int .i64 0] 58)).heap.size = w.heap.size + 1 by simp, hk] at hD
  have kc := Ml.conv_str (w.alloc (.cells #[.int .i64 0, .int .i64 0, .int .i64 0, .int .i64 0] 58)) c.text
  have HLen : Hid (∀ w' B aN nN cN aT nT cT, RecOwn w' B r aN nN cN aT nT cT → nT = 0 ∧ nN ≠ 4) := Lib.hid fun _ _ _ _ _ _ _ _ h => ⟨h.at.lenT.trans ht, by rw [h.at.lenN]; exact hno⟩
  have HD := Lib.hid hD
  clear hD h h1 htx hk hd ht hno
  generalize c.text = s at *
  go_enter Try.func23, Try.ntmps23
  go_wp2_with (first
    | (go_at_call 37; with_reducible refine HG.out.mono ?_; rintro e w1 ⟨rfl, rfl⟩)
    | (go_at_call 36; with_reducible refine HD.out.mono ?_; rintro e1 w1 ⟨aN, nN, cN, aT, nT, cT, rfl, hr, hb⟩
       obtain ⟨rfl, hn4⟩ := HLen.out _ _ _ _ _ _ _ _ hr
       have HX := Lib.hid (sta_box hb #[.int .i64 40, .slice aN nN cN, .slice aT 0 cT])
       have HM := Lib.hid (fun w' => @may_no4 w' aN nN cN hn4)
       have z0 := HX.out.1.cell 0
       have z1 := HX.out.1.cell 1
       have z2 := HX.out.1.cell 2
       have z3 := HX.out.1.cell 3
       have zf := HX.out.1.fz
       clear hb hr hn4)
    | (go_at_call 38; with_reducible refine (HM.out _).mono ?_; rintro e w2 ⟨rfl, rfl⟩))
  refine bodyPost_ret (v := fxV Fx.zero) (by simp [results, Try.results23, go_sem, fxV, Fx.zero, z0, z1, z2, z3]) rfl ⟨rfl, ?_⟩
  exact below4 HX.out.2 (Nat.le_refl _) _ _ _ _

set_option maxHeartbeats 4000000 in
theorem state_four (w : World) {tB cB a b : Nat} {c : M.Cl} {L W : Int} (h : WS w dB sB mB n d tB cB a b c L W) {r : C.M.Rc} (hd : C.M.dec c.text.data.toList = some r) (hk : r.kind = 40) (ht : r.texts.length = 0) {x0 x1 x2 x3 : Int} (hs : r.nums = [x0, x1, x2, x3]) :
    Calls Try.prog 23 #[.pointer (some ⟨tB, 0, none⟩)] w fun e w' => e = .returned (fxV (if (Fx.mk x0 x1 x2 x3).Ok then ⟨x0, x1, x2, x3⟩ else Fx.zero)) ∧ Below w.heap.size w w' := by
  have h1 := h.below ((Below.refl w.heap.size w).alloc (Nat.le_refl _) (.cells #[.int .i64 0, .int .i64 0, .int .i64 0, .int .i64 0] 58))
  have q0 := h1.q0
  have HG := Lib.hid (get_any _ h1.cel)
  have htx := h.tx
  have hD := C.decode_ok (Lib.bytesWorld (w.alloc (.cells #[.int .i64 0, .int .i64 0, .int .i64 0, .int .i64 0] 58)) 5 c.text) _ _ _ _ r (Ml.bytes_row (w.alloc (.cells #[.int .i64 0, .int .i64 0, .int .i64 0, .int .i64 0] 58)) c.text (by omega)) hd
  rw [show (w.alloc (.cells #[.int .i64 0, .int .i64 0, .int .i64 0, .int .i64 0] 58)).heap.size = w.heap.size + 1 by simp, hk] at hD
  have kc := Ml.conv_str (w.alloc (.cells #[.int .i64 0, .int .i64 0, .int .i64 0, .int .i64 0] 58)) c.text
  have HLen : Hid (∀ w' B aN nN cN aT nT cT, RecOwn w' B r aN nN cN aT nT cT → nT = 0) := Lib.hid fun _ _ _ _ _ _ _ _ h => h.at.lenT.trans ht
  have HN : Hid (∀ (w : World) (B : Nat) (aN : Option Addr) (nN cN : Nat) (aT : Option Addr) (nT cT : Nat), RecOwn w B r aN nN cN aT nT cT → ∃ b, aN = some ⟨b, 0, none⟩ ∧ b < w.heap.size ∧ nN = 4 ∧ 4 ≤ cN ∧ cN ≤ maxLen ∧ w.cell? ⟨b, 0, none⟩ = some (.int .i64 x0) ∧ w.cell? ⟨b, 1, none⟩ = some (.int .i64 x1) ∧ w.cell? ⟨b, 2, none⟩ = some (.int .i64 x2) ∧ w.cell? ⟨b, 3, none⟩ = some (.int .i64 x3)) := Lib.hid fun w B aN nN cN aT nT cT h => rec_nums hs h
  have HD := Lib.hid hD
  have HMy := Lib.hid (fun (w' : World) (b c : Nat) (hc : 4 ≤ c) => @may_4 w' b c x0 x1 x2 x3 hc)
  obtain ⟨ok, hok⟩ : ∃ ok, decide (Fx.mk x0 x1 x2 x3).Ok = ok := ⟨_, rfl⟩
  rw [hok] at HMy
  have Hok := Lib.hid hok
  clear hD h h1 htx hk hd ht hs hok
  generalize c.text = s at *
  cases ok with
  | false =>
    rw [if_neg (of_decide_eq_false Hok.out)]
    go_enter Try.func23, Try.ntmps23
    go_wp2_with (first
      | (go_at_call 37; with_reducible refine HG.out.mono ?_; rintro e w1 ⟨rfl, rfl⟩)
      | (go_at_call 36; with_reducible refine HD.out.mono ?_; rintro e1 w1 ⟨aN, nN, cN, aT, nT, cT, rfl, hr, hb⟩
         obtain rfl := HLen.out _ _ _ _ _ _ _ _ hr
         obtain ⟨bN, rfl, hbN, rfl, hcap1, hcap2, n0, n1, n2, n3⟩ := HN.out _ _ _ _ _ _ _ _ hr
         have HX := Lib.hid (sta_box hb #[.int .i64 40, .slice (some ⟨bN, 0, none⟩) 4 cN, .slice aT 0 cT])
         have HK := (Below.refl w1.heap.size w1).alloc (Nat.le_refl _) (.cells #[.int .i64 40, .slice (some ⟨bN, 0, none⟩) 4 cN, .slice aT 0 cT] 86)
         have HM := Lib.hid (HMy.out _ bN cN hcap1 ((HK.cell (p := ⟨bN, 0, none⟩) hbN).trans n0) ((HK.cell (p := ⟨bN, 1, none⟩) hbN).trans n1) ((HK.cell (p := ⟨bN, 2, none⟩) hbN).trans n2) ((HK.cell (p := ⟨bN, 3, none⟩) hbN).trans n3))
         have z0 := HX.out.1.cell 0
         have z1 := HX.out.1.cell 1
         have z2 := HX.out.1.cell 2
         have z3 := HX.out.1.cell 3
         have zf := HX.out.1.fz
         clear hb hr HK n0 n1 n2 n3)
      | (go_at_call 38; with_reducible refine HM.out.mono ?_; rintro e w2 ⟨rfl, rfl⟩))
    refine bodyPost_ret (v := fxV Fx.zero) (by simp [results, Try.results23, go_sem, fxV, Fx.zero, z0, z1, z2, z3]) rfl ⟨rfl, ?_⟩
    exact below4 HX.out.2 (Nat.le_refl _) _ _ _ _
  | true =>
    rw [if_pos (of_decide_eq_true Hok.out)]
    go_enter Try.func23, Try.ntmps23
    go_upto_region 4 with (first
      | (go_at_call 37; with_reducible refine HG.out.mono ?_; rintro e w1 ⟨rfl, rfl⟩)
      | (go_at_call 36; with_reducible refine HD.out.mono ?_; rintro e1 w1 ⟨aN, nN, cN, aT, nT, cT, rfl, hr, hb⟩
         obtain rfl := HLen.out _ _ _ _ _ _ _ _ hr
         obtain ⟨bN, rfl, hbN, rfl, hcap1, hcap2, n0, n1, n2, n3⟩ := HN.out _ _ _ _ _ _ _ _ hr
         have HX := Lib.hid (sta_box hb #[.int .i64 40, .slice (some ⟨bN, 0, none⟩) 4 cN, .slice aT 0 cT])
         have HK := (Below.refl w1.heap.size w1).alloc (Nat.le_refl _) (.cells #[.int .i64 40, .slice (some ⟨bN, 0, none⟩) 4 cN, .slice aT 0 cT] 86)
         have k0 := (HK.cell (p := ⟨bN, 0, none⟩) hbN).trans n0
         have k1 := (HK.cell (p := ⟨bN, 1, none⟩) hbN).trans n1
         have k2 := (HK.cell (p := ⟨bN, 2, none⟩) hbN).trans n2
         have k3 := (HK.cell (p := ⟨bN, 3, none⟩) hbN).trans n3
         have HM := Lib.hid (HMy.out _ bN cN hcap1 k0 k1 k2 k3)
         have HRb := Lib.hid (Bo.new w1 #[.int .i64 40, .slice (some ⟨bN, 0, none⟩) 4 cN, .slice aT 0 cT] 86)
         clear hb hr HK n0 n1 n2 n3)
      | (go_at_call 38; with_reducible refine HM.out.mono ?_; rintro e w2 ⟨rfl, rfl⟩))
    clear HG HD HLen HN HMy HM
    generalize hW : w1.alloc (.cells #[.int .i64 40, .slice (some ⟨bN, 0, none⟩) 4 cN, .slice aT 0 cT] 86) = W2 at *
    clear hW
    have r0 := HRb.out.cell 0
    have r1 := HRb.out.cell 1
    have r2 := HRb.out.cell 2
    simp only [maxLen] at hcap2
    go_still_tail 17, (by kernel_rfl)
    change wpList _ _ _ _ _ W2.drew
    have HX3 : Hid (Bo W2.drew w.heap.size #[.int .i64 0, .int .i64 0, .int .i64 0, .int .i64 0] 58 ∧ Below w.heap.size w W2.drew) := Lib.hid ⟨HX.out.1, HX.out.2.drew⟩
    clear HX HRb k0 k1 k2 k3 r0 r1 r2
    generalize W2.drew = W3 at *
    have z0 := HX3.out.1.cell 0
    have z1 := HX3.out.1.cell 1
    have z2 := HX3.out.1.cell 2
    have z3 := HX3.out.1.cell 3
    have zf := HX3.out.1.fz
    go_wp2
    refine bodyPost_ret (v := fxV ⟨x0, x1, x2, x3⟩) (by simp [results, Try.results23, go_sem, fxV, z0, z1, z2, z3]) rfl ⟨rfl, ?_⟩
    exact below4 HX3.out.2 (Nat.le_refl _) _ _ _ _

theorem state_any (w : World) {tB cB a b : Nat} {c : M.Cl} {L W : Int} (h : WS w dB sB mB n d tB cB a b c L W) :
    Calls Try.prog 23 #[.pointer (some ⟨tB, 0, none⟩)] w fun e w' => e = .returned (fxV (fx c.text)) ∧ Below w.heap.size w w' := by
  cases hd : C.M.dec c.text.data.toList with
  | none => rw [fx_none hd]; exact state_kind w h 0 (.inl ⟨hd, rfl⟩) (by decide)
  | some r =>
    by_cases h1 : r.kind = 40
    · by_cases h2 : r.texts.length = 0
      · by_cases h3 : r.nums.length = 4
        · match hn : r.nums, h3 with
          | [x0, x1, x2, x3], _ =>
            have e : fx c.text = if (Fx.mk x0 x1 x2 x3).Ok then ⟨x0, x1, x2, x3⟩ else Fx.zero := by
              by_cases ho : (Fx.mk x0 x1 x2 x3).Ok
              · rw [if_pos ho, fx_good hd ⟨h1, by rw [hn]; rfl, h2, by rw [hn]; exact ho⟩, hn]; rfl
              · rw [if_neg ho, fx_bad hd fun hr => ho (by have := hr.2.2.2; rw [hn] at this; exact this)]
            rw [e]
            exact state_four w h hd h1 h2 hn
        · rw [fx_bad hd fun hr => h3 hr.2.1]; exact state_no4 w h hd h1 h2 h3
      · rw [fx_bad hd fun hr => h2 hr.2.2.1]; exact state_texts w h hd h1 h2
    · rw [fx_bad hd fun hr => h1 hr.1]; exact state_kind w h r.kind (.inr ⟨r, hd, rfl⟩) h1

/-! ## what it tells -/
theorem epoch_any (w : World) {tB cB a b : Nat} {c : M.Cl} {L W : Int} (h : WS w dB sB mB n d tB cB a b c L W) :
    Calls Try.prog 12 #[.pointer (some ⟨tB, 0, none⟩)] w fun e w' => e = .returned (.int .i64 (fx c.text).ep) ∧ Below w.heap.size w w' := by
  have HS := Lib.hid (state_any w h)
  clear h
  generalize fx c.text = x at *
  obtain ⟨ep, ho, ma, ch⟩ := x
  simp only [fxV] at HS ⊢
  have fl : ∀ w, (Instr.field 58 (.agg #[.int .i64 ep, .int .i64 ho, .int .i64 ma, .int .i64 ch]) 0).run Try.prog w = .ok (.int .i64 ep) w := fun _ => by kernel_rfl
  go_enter Try.func12, Try.ntmps12
  go_wp2_with (go_at_call 23; with_reducible refine HS.out.mono ?_; rintro e w1 ⟨rfl, hb⟩)
  go_ret
  exact ⟨rfl, hb⟩
theorem holder_any (w : World) {tB cB a b : Nat} {c : M.Cl} {L W : Int} (h : WS w dB sB mB n d tB cB a b c L W) :
    Calls Try.prog 14 #[.pointer (some ⟨tB, 0, none⟩)] w fun e w' => e = .returned (.int .i64 (fx c.text).ho) ∧ Below w.heap.size w w' := by
  have HS := Lib.hid (state_any w h)
  clear h
  generalize fx c.text = x at *
  obtain ⟨ep, ho, ma, ch⟩ := x
  simp only [fxV] at HS ⊢
  have fl : ∀ w, (Instr.field 58 (.agg #[.int .i64 ep, .int .i64 ho, .int .i64 ma, .int .i64 ch]) 1).run Try.prog w = .ok (.int .i64 ho) w := fun _ => by kernel_rfl
  go_enter Try.func14, Try.ntmps14
  go_wp2_with (go_at_call 23; with_reducible refine HS.out.mono ?_; rintro e w1 ⟨rfl, hb⟩)
  go_ret
  exact ⟨rfl, hb⟩
theorem mask_any (w : World) {tB cB a b : Nat} {c : M.Cl} {L W : Int} (h : WS w dB sB mB n d tB cB a b c L W) :
    Calls Try.prog 13 #[.pointer (some ⟨tB, 0, none⟩)] w fun e w' => e = .returned (.int .i64 (fx c.text).ma) ∧ Below w.heap.size w w' := by
  have HS := Lib.hid (state_any w h)
  clear h
  generalize fx c.text = x at *
  obtain ⟨ep, ho, ma, ch⟩ := x
  simp only [fxV] at HS ⊢
  have fl : ∀ w, (Instr.field 58 (.agg #[.int .i64 ep, .int .i64 ho, .int .i64 ma, .int .i64 ch]) 2).run Try.prog w = .ok (.int .i64 ma) w := fun _ => by kernel_rfl
  go_enter Try.func13, Try.ntmps13
  go_wp2_with (go_at_call 23; with_reducible refine HS.out.mono ?_; rintro e w1 ⟨rfl, hb⟩)
  go_ret
  exact ⟨rfl, hb⟩
end Go.Proofs.Ytpoolpckabpnfaa.Wt
namespace Go.Proofs.Ytpoolpckabpnfaa.Wt
open Go.RowKit
open Ml (Mg may)
open C (RecAt RecOwn Own i64s strs u8s)
set_option linter.unusedVariables false
set_option linter.unusedSimpArgs false
set_option maxRecDepth 20000

variable {dB sB mB n : Nat} {d : M.Dv}

theorem crow_nil (w : World) : C.Row w none 0 0 [] := ⟨rfl, Nat.le_refl _, by simp [maxLen], .inl rfl⟩
theorem wt_rec (w : World) (x : Fx) (cs : Array Value) : RecAt ((w.alloc (.cells #[.int .i64 x.ep, .int .i64 x.ho, .int .i64 x.ma, .int .i64 x.ch] 2)).alloc (.cells cs 86)) (fxRec x) (some ⟨w.heap.size, 0, none⟩) 4 4 none 0 0 :=
  ⟨C.row_below (C.own_row (C.own_lit 2 w w.heap.size (i64s [x.ep, x.ho, x.ma, x.ch]) (Nat.le_refl _) (by simp [i64s]))).1 ((Below.refl _ _).alloc (Nat.le_refl _) _) (Nat.le_refl _), crow_nil _⟩
theorem row_but {w w' : World} {l : List Nat} {a : Option Addr} {m cap : Nat} {vs : List Value} (h : C.Row w a m cap vs) (hb : But l w w') (hn : ∀ b off, a = some ⟨b, off, none⟩ → b ∉ l) : C.Row w' a m cap vs := by
  obtain ⟨h1, h2, h3, h4⟩ := h
  refine ⟨h1, h2, h3, ?_⟩
  rcases h4 with h4 | ⟨b, off, ha, hlt, hc⟩
  · exact .inl h4
  · exact .inr ⟨b, off, ha, Nat.lt_of_lt_of_le hlt hb.size, fun i hi => by rw [hb.cell hlt (hn b off ha)]; exact hc i hi⟩

set_option maxHeartbeats 4000000 in
theorem put_any (w : World) {tB cB a b : Nat} {c : M.Cl} {L W : Int} (h : WS w dB sB mB n d tB cB a b c L W) (y : Fx) (hy : y.Ok) :
    Calls Try.prog 58 #[.pointer (some ⟨tB, 0, none⟩), fxV y] w fun e w' => e = .returned (.int .i64 (M.puE n d a b c (fxT y))) ∧ WS w' dB sB mB n (M.puD n d a b c (fxT y)) tB cB a b (M.puC n d a b c (fxT y)) L W ∧ But (ours dB sB mB cB tB) w w' := by
  have HP : Hid (∀ w', WS w' dB sB mB n d tB cB a b c L W → Calls Try.prog 71 #[.pointer (some ⟨cB, 0, none⟩), .string (C.str (C.M.enc (fxRec y)))] w' fun e w'' => e = .returned (.int .i64 (M.puE n d a b c (fxT y))) ∧ WS w'' dB sB mB n (M.puD n d a b c (fxT y)) tB cB a b (M.puC n d a b c (fxT y)) L W ∧ But (ours dB sB mB cB tB) w' w'') := Lib.hid fun w' h => put_ws h y
  have HS := Lib.hid h
  have HI : Hid (∀ b, w.heap.size ≤ b → b ∉ ours dB sB mB cB tB) := Lib.hid fun b hb => h.not_mem hb
  obtain ⟨hm1, hm2⟩ := fx_may hy
  have HE : Hid (Calls Try.prog 70 #[.agg #[.int .i64 40, .slice (some ⟨w.heap.size + 1, 0, none⟩) 4 4, .slice none 0 0]] (((w.alloc (.cells #[.int .i64 y.ep, .int .i64 y.ho, .int .i64 y.ma, .int .i64 y.ch] 58)).alloc (.cells #[.int .i64 y.ep, .int .i64 y.ho, .int .i64 y.ma, .int .i64 y.ch] 2)).alloc (.cells #[.int .i64 40, .slice (some ⟨w.heap.size + 1, 0, none⟩) 4 4, .slice none 0 0] 86)) fun e w' => ∃ a cap, e = .returned (.tuple #[.slice a (C.M.enc (fxRec y)).length cap, .int .i64 0]) ∧ C.Row w' a (C.M.enc (fxRec y)).length cap (u8s (C.M.enc (fxRec y))) ∧ (∀ b off, a = some ⟨b, off, none⟩ → w.heap.size ≤ b) ∧ Below w.heap.size w w') := Lib.hid (by
    have hr := wt_rec (w.alloc (.cells #[.int .i64 y.ep, .int .i64 y.ho, .int .i64 y.ma, .int .i64 y.ch] 58)) y #[.int .i64 40, .slice (some ⟨w.heap.size + 1, 0, none⟩) 4 4, .slice none 0 0]
    rw [show (w.alloc (.cells #[.int .i64 y.ep, .int .i64 y.ho, .int .i64 y.ma, .int .i64 y.ch] 58)).heap.size = w.heap.size + 1 by simp] at hr
    refine (C.encode_yes _ (fxRec y) _ _ _ _ _ _ hr hm1 hm2).mono ?_
    rintro e w' ⟨aE, cE, rfl, ho, hb⟩
    have h3 : Below w.heap.size w (((w.alloc (.cells #[.int .i64 y.ep, .int .i64 y.ho, .int .i64 y.ma, .int .i64 y.ch] 58)).alloc (.cells #[.int .i64 y.ep, .int .i64 y.ho, .int .i64 y.ma, .int .i64 y.ch] 2)).alloc (.cells #[.int .i64 40, .slice (some ⟨w.heap.size + 1, 0, none⟩) 4 4, .slice none 0 0] 86)) := (((Below.refl _ _).alloc (Nat.le_refl _) _).alloc (by simp) _).alloc (by simp; omega) _
    obtain ⟨o1, o2⟩ := C.own_row ho
    exact ⟨aE, cE, rfl, o1, fun b off hx => Nat.le_trans h3.size (o2 b off hx).1, h3.trans (hb.mono h3.size)⟩)
  generalize M.puE n d a b c (fxT y) = E at *
  generalize M.puD n d a b c (fxT y) = D at *
  generalize M.puC n d a b c (fxT y) = C2 at *
  generalize C.M.enc (fxRec y) = l at *
  clear h hy hm1 hm2
  obtain ⟨ep, ho, ma, ch⟩ := y
  simp only [fxV] at HE ⊢
  go_enter Try.func58, Try.ntmps58
  go_upto_region 3 with (go_at_call 70; with_reducible refine HE.out.mono ?_; rintro e w1 ⟨aE, cE, rfl, hr, hab, hb⟩
                         have HB := Lib.hid hb
                         have S1 := Lib.hid (HS.out.below hb)
                         have HK : Hid (∀ w', But (ours dB sB mB cB tB) w1 w' → w'.cell? ⟨tB, 0, none⟩ = some (.pointer (some ⟨cB, 0, none⟩)) → w'.cell? ⟨tB, 0, none⟩ = some (.pointer (some ⟨cB, 0, none⟩)) ∧ (convert 48 9 (.slice aE l.length cE)).run Try.prog w' = .ok (.string (C.str l)) w') := Lib.hid fun w' hb' hq => ⟨hq, C.run_string_bytes (row_but hr hb' fun b off hx => HI.out b (hab b off hx))⟩
                         clear hb hr hab)
  obtain ⟨q0, cv⟩ := HK.out w1 (But.refl _ _) S1.out.q0
  go_region_held3 (fun w' => w'.cell? ⟨tB, 0, none⟩ = some (.pointer (some ⟨cB, 0, none⟩)) ∧ (convert 48 9 (.slice aE l.length cE)).run Try.prog w' = .ok (.string (C.str l)) w')
    (first
      | exact ⟨q0, cv⟩
      | exact HK.out w1.drew ((But.of_below (Below.refl w1.heap.size w1).drew).mono (by simp)) q0
      | exact HK.out _ B3.out S3.out.q0)
    (first
      | (go_at_call 71; refine (HP.out w1.drew (S1.out.below (Below.refl w1.heap.size w1).drew)).mono ?_; rintro e w3 ⟨rfl, hs3, hb3⟩
         have S3 := Lib.hid hs3
         have B3 : Hid (But (ours dB sB mB cB tB) w1 w3) := Lib.hid (((But.of_below (Below.refl w1.heap.size w1).drew).mono (by simp)).trans hb3)
         clear hs3 hb3))
  go_wp2
  go_ret
  exact ⟨rfl, S3.out, ((But.of_below HB.out).mono (by simp)).trans B3.out⟩
end Go.Proofs.Ytpoolpckabpnfaa.Wt
namespace Go.Proofs.Ytpoolpckabpnfaa.Wt
open Go.RowKit
open Ml (Mg may)
set_option linter.unusedVariables false
set_option linter.unusedSimpArgs false
set_option maxRecDepth 20000

/-- the mask of a node alone -/
def bitI (fr : Int) : Int := if fr = 0 then 1 else 2
theorem bit0 (w : World) : Calls Try.prog 57 #[.int .i64 0] w fun e w' => e = .returned (.int .i64 1) ∧ w = w' := by
  go_enter Try.func57, Try.ntmps57
  go_wp2
  go_ret
  exact ⟨rfl, rfl⟩
theorem bit1 (w : World) : Calls Try.prog 57 #[.int .i64 1] w fun e w' => e = .returned (.int .i64 2) ∧ w = w' := by
  go_enter Try.func57, Try.ntmps57
  go_wp2
  go_ret
  exact ⟨rfl, rfl⟩
theorem bit_any (w : World) {fr : Int} (hf : 0 ≤ fr ∧ fr ≤ 1) : Calls Try.prog 57 #[.int .i64 fr] w fun e w' => e = .returned (.int .i64 (bitI fr)) ∧ w = w' := by
  have h : fr = 0 ∨ fr = 1 := by omega
  rcases h with rfl | rfl
  · exact bit0 w
  · exact bit1 w
/-- is a node in a mask? -/
theorem and_is {ma fr : Int} (hf : 0 ≤ fr ∧ fr ≤ 1) (hm : 1 ≤ ma ∧ ma ≤ 3) : ∃ v, bits .and .i64 ma (bitI fr) = v ∧ (inM ma fr = true → (v == 0) = false) ∧ (inM ma fr = false → (v == 0) = true) := by
  have h : fr = 0 ∨ fr = 1 := by omega
  have h2 : ma = 1 ∨ ma = 2 ∨ ma = 3 := by omega
  rcases h with rfl | rfl <;> rcases h2 with rfl | rfl | rfl <;> exact ⟨_, rfl, by decide, by decide⟩
/-- a mask without a node -/
theorem not_is {ma fr : Int} (hf : 0 ≤ fr ∧ fr ≤ 1) (hm : 1 ≤ ma ∧ ma ≤ 3) : ∃ v, bits .andNot .i64 ma (bitI fr) = v ∧ (((v != 0) = true ∧ lostM ma fr = v) ∨ ((v != 0) = false ∧ lostM ma fr = ma)) := by
  have h : fr = 0 ∨ fr = 1 := by omega
  have h2 : ma = 1 ∨ ma = 2 ∨ ma = 3 := by omega
  rcases h with rfl | rfl <;> rcases h2 with rfl | rfl | rfl <;> first | exact ⟨_, rfl, .inl ⟨by decide, by decide⟩⟩ | exact ⟨_, rfl, .inr ⟨by decide, by decide⟩⟩
theorem bl1 (W : World) (G o : Nat) (v : Value) : Below G W (W.setCell ⟨G, o, none⟩ v) := (Below.refl G W).setCell (Nat.le_refl _) _
theorem bl2 (W : World) (G o p : Nat) (v u : Value) : Below G W ((W.setCell ⟨G, o, none⟩ v).setCell ⟨G, p, none⟩ u) := (bl1 W G o v).setCell (Nat.le_refl _) _
theorem bl2d (W : World) (G o p : Nat) (v u : Value) : Below G W ((W.setCell ⟨G, o, none⟩ v).setCell ⟨G, p, none⟩ u).drew := (bl2 W G o p v u).drew
end Go.Proofs.Ytpoolpckabpnfaa.Wt
