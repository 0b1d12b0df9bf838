/-
  The document's own witness is opened.
  Strings, rows of strings, of bools, and what a crash leaves, that a statement is handed, read as in memory.
  Rows of acts that a statement is handed, read as in memory.
  Is an act too large to be looked at? What a crash keeps, in a row of the call's own. Acts in a row and in a box: they are loaded and stored whole.
-/
import Derived.Test.YtpoolpckabpnfaaGreatJRA
import Derived.Test.YtpoolpckabpnfaaGreatJWC
import Derived.Test.YtpoolpckabpnfaaGreatRows
import Derived.Test.YtpoolpckabpnfaaGreatCel7
import Derived.Test.YtpoolpckabpnfaaGreatMlMsg
import Derived.Test.YtpoolpckabpnfaaGreatJWA
import Derived.ProofKit
import Derived.OpenShut
import Derived.ShutString
import Derived.ChangeOld
import Derived.SliceStrings
import Derived.Lib.SmallJoins
import Derived.Deep.SlicePairs
import Derived.Deep.Grids
import Derived.Deep.Slices
import Derived.Deep.Fields
import Derived.BigRegion
import Derived.Deep.MidRow
namespace Go.Proofs.YtpoolpckabpnfaaGreat.Wt
open Go.RowKit
open Ml (Mg may msgV MB)
open C (RecAt RecOwn zeroRec Own i64s strs u8s)
set_option linter.unusedVariables false
set_option linter.unusedSimpArgs false
set_option maxRecDepth 20000

variable {rB LB n : Nat} {d : M.Dv}

theorem ropen_arg (w : World) (p : Addr) (a b W : Int) (hW : ¬ (1 ≤ W ∧ W ≤ 1099511627776)) :
    Calls Tryz.prog 8 #[.pointer (some p), .int .i64 a, .int .i64 b, .int .i64 W] w fun e w' => e = .returned (.tuple #[.pointer none, .int .i64 1]) ∧ w = w' := by
  have h2 : W < 1 ∨ (¬ W < 1 ∧ 1099511627776 < W) := by omega
  clear hW
  rcases h2 with h1 | ⟨h1, h2⟩
  all_goals
    go_enter Tryz.func8, Tryz.ntmps8
    go_wp2
    go_ret2
    exact ⟨rfl, rfl⟩
theorem ropen_err (w : World) (p : Addr) (a b W : Int) (hW : 1 ≤ W ∧ W ≤ 1099511627776) (E : Int) (hE : E ≠ 0) (ho : Calls Tryz.prog 30 #[.pointer (some p), .int .i64 a, .int .i64 b] w fun e w' => e = .returned (.tuple #[.pointer none, .int .i64 E]) ∧ w = w') :
    Calls Tryz.prog 8 #[.pointer (some p), .int .i64 a, .int .i64 b, .int .i64 W] w fun e w' => e = .returned (.tuple #[.pointer none, .int .i64 E]) ∧ w = w' := by
  have h1 : ¬ W < 1 := by omega
  have h2 : ¬ 1099511627776 < W := by omega
  have h3 : (E == 0) = false := by rw [beq_eq_false_iff_ne]; exact hE
  have h4 : (E != 0) = true := by rw [bne_iff_ne]; exact hE
  have HO := Lib.hid ho
  clear hW hE ho
  go_enter Tryz.func8, Tryz.ntmps8
  go_wp2_with (go_at_call 30; with_reducible refine HO.out.mono ?_; rintro e w1 ⟨rfl, rfl⟩)
  go_ret2
  exact ⟨rfl, rfl⟩

theorem rx_new {w w2 : World} (h : RefAt w rB LB n d) {a b kB z : Nat} {W : Int} (hab : a ≠ b ∧ a < n ∧ b < n) (hW : 1 ≤ W ∧ W ≤ 1099511627776) (h1 : w.heap.size ≤ kB) (hz : ZO z (there d a b).o) (hc : RCell w2 kB rB a b z (there d a b)) (hb : Below w.heap.size w w2) :
    RX (w2.alloc (.cells #[.pointer (some ⟨kB, 0, none⟩), .int .i64 0, .int .i64 (-1), .int .i64 3, .int .i64 0, .int .i64 W, .int .i64 W] 54)) rB LB n d w2.heap.size kB a b (there d a b) Fx.zero W W := by
  have hA := (Below.refl w2.heap.size w2).alloc (Nat.le_refl _) (.cells #[.pointer (some ⟨kB, 0, none⟩), .int .i64 0, .int .i64 (-1), .int .i64 3, .int .i64 0, .int .i64 W, .int .i64 W] 54)
  have l1 := h.ltR
  have l2 := h.lt
  have l4 := hc.lt
  have l5 := hb.size
  exact ⟨(h.but (But.of_below hb) (by simp) (by simp)).but (But.of_below hA) (by simp) (by simp), Bo.new w2 _ _, ⟨z, hz, hc.below hA l4⟩, ⟨by omega, by omega⟩, ⟨by omega, by omega, by omega⟩, M.found_gen _ _, M.found_o _ _, M.found_text _ _, hab, hW, by omega⟩
theorem rdec_ok (w : World) (s : ByteArray) (hs : s.size ≤ 65536) (r : C.M.Rc) (hd : C.M.dec s.data.toList = some r) :
    Calls Tryz.prog 31 #[.slice (some ⟨w.heap.size, 0, none⟩) s.size (grownCap w s.size 0 5)] (Lib.bytesWorld w 5 s) fun e w' => ∃ aN nN cN aT nT cT, e = .returned (.tuple #[.agg #[.int .i64 r.kind, .slice aN nN cN, .slice aT nT cT], .int .i64 0]) ∧ RecOwn w' w.heap.size r aN nN cN aT nT cT ∧ Below w.heap.size w w' := by
  have h1 := Ml.bytes_below w s
  refine (C.refdecode_any (Lib.bytesWorld w 5 s) _ _ _ _ (Ml.bytes_row w s hs) hs).mono ?_
  rintro e w' ⟨hb, ⟨r', v, h2, ⟨aN, nN, cN, aT, nT, cT, rfl, h3, h4⟩, rfl⟩ | ⟨h2, _⟩⟩
  · rw [hd] at h2
    injection h2 with h2
    subst h2
    exact ⟨aN, nN, cN, aT, nT, cT, rfl, ⟨C.own_mono h3 h1.size, C.own_mono h4 h1.size⟩, h1.trans (hb.mono h1.size)⟩
  · rw [hd] at h2; cases h2
theorem rdec_no (w : World) (s : ByteArray) (hs : s.size ≤ 65536) (hd : C.M.dec s.data.toList = none) :
    Calls Tryz.prog 31 #[.slice (some ⟨w.heap.size, 0, none⟩) s.size (grownCap w s.size 0 5)] (Lib.bytesWorld w 5 s) fun e w' => e = .returned (.tuple #[.agg #[.int .i64 0, .slice none 0 0, .slice none 0 0], .int .i64 4]) ∧ Below w.heap.size w w' := by
  have h1 := Ml.bytes_below w s
  refine (C.refdecode_any (Lib.bytesWorld w 5 s) _ _ _ _ (Ml.bytes_row w s hs) hs).mono ?_
  rintro e w' ⟨hb, ⟨r', v, h2, _⟩ | ⟨h2, rfl⟩⟩
  · rw [hd] at h2; cases h2
  · exact ⟨rfl, h1.trans (hb.mono h1.size)⟩
theorem rec_nums2 {r : C.M.Rc} {x0 x1 x2 x3 : Int} (hs : r.nums = [x0, x1, x2, x3]) {w : World} {B : Nat} {aN : Option Addr} {nN cN : Nat} {aT : Option Addr} {nT cT : Nat} (h : RecOwn w B r aN nN cN aT nT cT) :
    ∃ b, aN = some ⟨b, 0, none⟩ ∧ (B ≤ b ∧ b < w.heap.size) ∧ nN = 4 ∧ 4 ≤ cN ∧ cN ≤ maxLen ∧ w.cell? ⟨b, 0, none⟩ = some (.int .i64 x0) ∧ w.cell? ⟨b, 1, none⟩ = some (.int .i64 x1) ∧ w.cell? ⟨b, 2, none⟩ = some (.int .i64 x2) ∧ w.cell? ⟨b, 3, none⟩ = some (.int .i64 x3) := by
  obtain ⟨b, h1, h2, h3⟩ := rec_nums hs h
  exact ⟨b, h1, ⟨((C.own_row h.nums).2 b 0 h1).1, h2⟩, h3⟩


set_option maxHeartbeats 4000000 in
theorem ropen_a (w : World) (h : RefAt w rB LB n d) (hdead : d.dead = false) {a b : Nat} (hab : a ≠ b ∧ a < n ∧ b < n) {W : Int} (hW : 1 ≤ W ∧ W ≤ 1099511627776) (hd : C.M.dec (there d a b).text.data.toList = none) :
    Calls Tryz.prog 8 #[.pointer (some ⟨rB, 0, none⟩), .int .i64 (a : Int), .int .i64 (b : Int), .int .i64 W] w fun e w' => ∃ vB kB, e = .returned (.tuple #[.pointer (some ⟨vB, 0, none⟩), .int .i64 0]) ∧ w.heap.size ≤ vB ∧ w.heap.size ≤ kB ∧
      RX w' rB LB n d vB kB a b (there d a b) Fx.zero W W ∧ Below w.heap.size w w' := by
  have hw1 : ¬ W < 1 := by omega
  have hw2 : ¬ 1099511627776 < W := by omega
  have HO := Lib.hid (ropen_yes w h hdead a b hab.1 hab.2.1 hab.2.2)
  change Hid (Calls Tryz.prog 30 #[.pointer (some ⟨rB, 0, none⟩), .int .i64 (a : Int), .int .i64 (b : Int)] w fun e w' => ∃ kB z, e = .returned (.tuple #[.pointer (some ⟨kB, 0, none⟩), .int .i64 0]) ∧ w.heap.size ≤ kB ∧ ZO z (there d a b).o ∧ RCell w' kB rB a b z (there d a b) ∧ Below w.heap.size w w') at HO
  have htx : (there d a b).text.size ≤ 65536 := by have : (there d a b).text.size ≤ 100 := M.found_text _ _; omega
  have HN := Lib.hid (fun (w2 : World) (kB z : Nat) => @rx_new rB LB n d w w2 h a b kB z W hab hW)
  have HD := Lib.hid (fun w' => rdec_no w' (there d a b).text htx hd)
  clear hd
  have HTx : Hid (∀ w2 kB z, RCell w2 kB rB a b z (there d a b) → w2.cell? ⟨kB, 5, none⟩ = some (.string (there d a b).text) ∧ kB < w2.heap.size) := Lib.hid fun w2 kB z h => ⟨h.p5, h.lt⟩
  clear h hdead hab hW htx
  generalize (there d a b).text = s at *
  generalize there d a b = C0 at *
  go_enter Tryz.func8, Tryz.ntmps8
  go_upto_region 8 with (first
    | (go_at_call 30; with_reducible refine HO.out.mono ?_; rintro e w2 ⟨kB, z, rfl, hc1, hz, hc2, hb2⟩
       have HT := Lib.hid (HN.out w2 kB z hc1 hz hc2 hb2)
       have HB2 := Lib.hid (hb2.alloc hb2.size (.cells #[.pointer (some ⟨kB, 0, none⟩), .int .i64 0, .int .i64 (-1), .int .i64 3, .int .i64 0, .int .i64 W, .int .i64 W] 54))
       have HL2 := Lib.hid hb2.size
       have hcg := Lib.hid hc1
       obtain ⟨p5', hlt5⟩ := HTx.out _ _ _ hc2
       have p5 := (((Below.refl w2.heap.size w2).alloc (Nat.le_refl _) (.cells #[.pointer (some ⟨kB, 0, none⟩), .int .i64 0, .int .i64 (-1), .int .i64 3, .int .i64 0, .int .i64 W, .int .i64 W] 54)).cell (p := ⟨kB, 5, none⟩) hlt5).trans p5'
       have kc := Ml.conv_str (w2.alloc (.cells #[.pointer (some ⟨kB, 0, none⟩), .int .i64 0, .int .i64 (-1), .int .i64 3, .int .i64 0, .int .i64 W, .int .i64 W] 54)) s
       have HDc := Lib.hid (HD.out (w2.alloc (.cells #[.pointer (some ⟨kB, 0, none⟩), .int .i64 0, .int .i64 (-1), .int .i64 3, .int .i64 0, .int .i64 W, .int .i64 W] 54)))
       rw [show (w2.alloc (.cells #[.pointer (some ⟨kB, 0, none⟩), .int .i64 0, .int .i64 (-1), .int .i64 3, .int .i64 0, .int .i64 W, .int .i64 W] 54)).heap.size = w2.heap.size + 1 by simp] at HDc
       clear hc1 hc2 hb2 hz p5' hlt5)
    | (go_at_call 31; with_reducible refine HDc.out.mono ?_; rintro e1 w4 ⟨rfl, hb⟩
       have HB4 : Hid (Below w.heap.size w w4) := Lib.hid (HB2.out.trans (hb.mono (by have := HB2.out.size; simp at this; omega)))
       have HT4 := Lib.hid (HT.out.below (by simpa using hb))
       clear hb))
  have HT5 := Lib.hid (HT4.out.below ((Below.refl _ _).alloc (Nat.le_refl _) (.cells #[.int .i64 0, .slice none 0 0, .slice none 0 0] 80)))
  have HB5 := Lib.hid (HB4.out.alloc HB4.out.size (.cells #[.int .i64 0, .slice none 0 0, .slice none 0 0] 80))
  go_wp2
  go_ret2
  exact ⟨w2.heap.size, kB, rfl, HL2.out, hcg.out, HT5.out, HB5.out⟩


set_option maxHeartbeats 4000000 in
theorem ropen_b (w : World) (h : RefAt w rB LB n d) (hdead : d.dead = false) {a b : Nat} (hab : a ≠ b ∧ a < n ∧ b < n) {W : Int} (hW : 1 ≤ W ∧ W ≤ 1099511627776) {r : C.M.Rc} (hd : C.M.dec (there d a b).text.data.toList = some r) (hk : r.kind ≠ 40) :
    Calls Tryz.prog 8 #[.pointer (some ⟨rB, 0, none⟩), .int .i64 (a : Int), .int .i64 (b : Int), .int .i64 W] w fun e w' => ∃ vB kB, e = .returned (.tuple #[.pointer (some ⟨vB, 0, none⟩), .int .i64 0]) ∧ w.heap.size ≤ vB ∧ w.heap.size ≤ kB ∧
      RX w' rB LB n d vB kB a b (there d a b) Fx.zero W W ∧ Below w.heap.size w w' := by
  have hw1 : ¬ W < 1 := by omega
  have hw2 : ¬ 1099511627776 < W := by omega
  have HO := Lib.hid (ropen_yes w h hdead a b hab.1 hab.2.1 hab.2.2)
  change Hid (Calls Tryz.prog 30 #[.pointer (some ⟨rB, 0, none⟩), .int .i64 (a : Int), .int .i64 (b : Int)] w fun e w' => ∃ kB z, e = .returned (.tuple #[.pointer (some ⟨kB, 0, none⟩), .int .i64 0]) ∧ w.heap.size ≤ kB ∧ ZO z (there d a b).o ∧ RCell w' kB rB a b z (there d a b) ∧ Below w.heap.size w w') at HO
  have htx : (there d a b).text.size ≤ 65536 := by have : (there d a b).text.size ≤ 100 := M.found_text _ _; omega
  have HN := Lib.hid (fun (w2 : World) (kB z : Nat) => @rx_new rB LB n d w w2 h a b kB z W hab hW)
  have HD := Lib.hid (fun w' => rdec_ok w' (there d a b).text htx r hd)
  have hk2 : (r.kind != 40) = true := by rw [bne_iff_ne]; exact hk
  clear hd hk
  have HTx : Hid (∀ w2 kB z, RCell w2 kB rB a b z (there d a b) → w2.cell? ⟨kB, 5, none⟩ = some (.string (there d a b).text) ∧ kB < w2.heap.size) := Lib.hid fun w2 kB z h => ⟨h.p5, h.lt⟩
  clear h hdead hab hW htx
  generalize (there d a b).text = s at *
  generalize there d a b = C0 at *
  go_enter Tryz.func8, Tryz.ntmps8
  go_upto_region 8 with (first
    | (go_at_call 30; with_reducible refine HO.out.mono ?_; rintro e w2 ⟨kB, z, rfl, hc1, hz, hc2, hb2⟩
       have HT := Lib.hid (HN.out w2 kB z hc1 hz hc2 hb2)
       have HB2 := Lib.hid (hb2.alloc hb2.size (.cells #[.pointer (some ⟨kB, 0, none⟩), .int .i64 0, .int .i64 (-1), .int .i64 3, .int .i64 0, .int .i64 W, .int .i64 W] 54))
       have HL2 := Lib.hid hb2.size
       have hcg := Lib.hid hc1
       obtain ⟨p5', hlt5⟩ := HTx.out _ _ _ hc2
       have p5 := (((Below.refl w2.heap.size w2).alloc (Nat.le_refl _) (.cells #[.pointer (some ⟨kB, 0, none⟩), .int .i64 0, .int .i64 (-1), .int .i64 3, .int .i64 0, .int .i64 W, .int .i64 W] 54)).cell (p := ⟨kB, 5, none⟩) hlt5).trans p5'
       have kc := Ml.conv_str (w2.alloc (.cells #[.pointer (some ⟨kB, 0, none⟩), .int .i64 0, .int .i64 (-1), .int .i64 3, .int .i64 0, .int .i64 W, .int .i64 W] 54)) s
       have HDc := Lib.hid (HD.out (w2.alloc (.cells #[.pointer (some ⟨kB, 0, none⟩), .int .i64 0, .int .i64 (-1), .int .i64 3, .int .i64 0, .int .i64 W, .int .i64 W] 54)))
       rw [show (w2.alloc (.cells #[.pointer (some ⟨kB, 0, none⟩), .int .i64 0, .int .i64 (-1), .int .i64 3, .int .i64 0, .int .i64 W, .int .i64 W] 54)).heap.size = w2.heap.size + 1 by simp] at HDc
       clear hc1 hc2 hb2 hz p5' hlt5)
    | (go_at_call 31; with_reducible refine HDc.out.mono ?_; rintro e1 w4 ⟨aN, nN, cN, aT, nT, cT, rfl, hr, hb⟩
       have HB4 : Hid (Below w.heap.size w w4) := Lib.hid (HB2.out.trans (hb.mono (by have := HB2.out.size; simp at this; omega)))
       have HT4 := Lib.hid (HT.out.below (by simpa using hb))
       clear hb hr))
  have HT5 := Lib.hid (HT4.out.below ((Below.refl _ _).alloc (Nat.le_refl _) (.cells #[.int .i64 r.kind, .slice aN nN cN, .slice aT nT cT] 80)))
  have HB5 := Lib.hid (HB4.out.alloc HB4.out.size (.cells #[.int .i64 r.kind, .slice aN nN cN, .slice aT nT cT] 80))
  go_wp2
  go_ret2
  exact ⟨w2.heap.size, kB, rfl, HL2.out, hcg.out, HT5.out, HB5.out⟩


set_option maxHeartbeats 4000000 in
theorem ropen_c (w : World) (h : RefAt w rB LB n d) (hdead : d.dead = false) {a b : Nat} (hab : a ≠ b ∧ a < n ∧ b < n) {W : Int} (hW : 1 ≤ W ∧ W ≤ 1099511627776) {r : C.M.Rc} (hd : C.M.dec (there d a b).text.data.toList = some r) (hk : r.kind = 40) (hn : r.nums.length ≠ 4) :
    Calls Tryz.prog 8 #[.pointer (some ⟨rB, 0, none⟩), .int .i64 (a : Int), .int .i64 (b : Int), .int .i64 W] w fun e w' => ∃ vB kB, e = .returned (.tuple #[.pointer (some ⟨vB, 0, none⟩), .int .i64 0]) ∧ w.heap.size ≤ vB ∧ w.heap.size ≤ kB ∧
      RX w' rB LB n d vB kB a b (there d a b) Fx.zero W W ∧ Below w.heap.size w w' := by
  have hw1 : ¬ W < 1 := by omega
  have hw2 : ¬ 1099511627776 < W := by omega
  have HO := Lib.hid (ropen_yes w h hdead a b hab.1 hab.2.1 hab.2.2)
  change Hid (Calls Tryz.prog 30 #[.pointer (some ⟨rB, 0, none⟩), .int .i64 (a : Int), .int .i64 (b : Int)] w fun e w' => ∃ kB z, e = .returned (.tuple #[.pointer (some ⟨kB, 0, none⟩), .int .i64 0]) ∧ w.heap.size ≤ kB ∧ ZO z (there d a b).o ∧ RCell w' kB rB a b z (there d a b) ∧ Below w.heap.size w w') at HO
  have htx : (there d a b).text.size ≤ 65536 := by have : (there d a b).text.size ≤ 100 := M.found_text _ _; omega
  have HN := Lib.hid (fun (w2 : World) (kB z : Nat) => @rx_new rB LB n d w w2 h a b kB z W hab hW)
  have HD := Lib.hid (fun w' => rdec_ok w' (there d a b).text htx r hd)
  rw [hk] at HD
  have HLen : Hid (∀ w' B aN nN cN aT nT cT, RecOwn w' B r aN nN cN aT nT cT → ((nN : Int) != 4) = true) := Lib.hid fun _ _ _ _ _ _ _ _ h => by rw [bne_iff_ne]; have := h.at.lenN; omega
  clear hd hk hn
  have HTx : Hid (∀ w2 kB z, RCell w2 kB rB a b z (there d a b) → w2.cell? ⟨kB, 5, none⟩ = some (.string (there d a b).text) ∧ kB < w2.heap.size) := Lib.hid fun w2 kB z h => ⟨h.p5, h.lt⟩
  clear h hdead hab hW htx
  generalize (there d a b).text = s at *
  generalize there d a b = C0 at *
  go_enter Tryz.func8, Tryz.ntmps8
  go_upto_region 8 with (first
    | (go_at_call 30; with_reducible refine HO.out.mono ?_; rintro e w2 ⟨kB, z, rfl, hc1, hz, hc2, hb2⟩
       have HT := Lib.hid (HN.out w2 kB z hc1 hz hc2 hb2)
       have HB2 := Lib.hid (hb2.alloc hb2.size (.cells #[.pointer (some ⟨kB, 0, none⟩), .int .i64 0, .int .i64 (-1), .int .i64 3, .int .i64 0, .int .i64 W, .int .i64 W] 54))
       have HL2 := Lib.hid hb2.size
       have hcg := Lib.hid hc1
       obtain ⟨p5', hlt5⟩ := HTx.out _ _ _ hc2
       have p5 := (((Below.refl w2.heap.size w2).alloc (Nat.le_refl _) (.cells #[.pointer (some ⟨kB, 0, none⟩), .int .i64 0, .int .i64 (-1), .int .i64 3, .int .i64 0, .int .i64 W, .int .i64 W] 54)).cell (p := ⟨kB, 5, none⟩) hlt5).trans p5'
       have kc := Ml.conv_str (w2.alloc (.cells #[.pointer (some ⟨kB, 0, none⟩), .int .i64 0, .int .i64 (-1), .int .i64 3, .int .i64 0, .int .i64 W, .int .i64 W] 54)) s
       have HDc := Lib.hid (HD.out (w2.alloc (.cells #[.pointer (some ⟨kB, 0, none⟩), .int .i64 0, .int .i64 (-1), .int .i64 3, .int .i64 0, .int .i64 W, .int .i64 W] 54)))
       rw [show (w2.alloc (.cells #[.pointer (some ⟨kB, 0, none⟩), .int .i64 0, .int .i64 (-1), .int .i64 3, .int .i64 0, .int .i64 W, .int .i64 W] 54)).heap.size = w2.heap.size + 1 by simp] at HDc
       clear hc1 hc2 hb2 hz p5' hlt5)
    | (go_at_call 31; with_reducible refine HDc.out.mono ?_; rintro e1 w4 ⟨aN, nN, cN, aT, nT, cT, rfl, hr, hb⟩
       have HB4 : Hid (Below w.heap.size w w4) := Lib.hid (HB2.out.trans (hb.mono (by have := HB2.out.size; simp at this; omega)))
       have HT4 := Lib.hid (HT.out.below (by simpa using hb))
       have hl4 := HLen.out _ _ _ _ _ _ _ _ hr
       clear hb hr))
  have HT5 := Lib.hid (HT4.out.below ((Below.refl _ _).alloc (Nat.le_refl _) (.cells #[.int .i64 40, .slice aN nN cN, .slice aT nT cT] 80)))
  have HB5 := Lib.hid (HB4.out.alloc HB4.out.size (.cells #[.int .i64 40, .slice aN nN cN, .slice aT nT cT] 80))
  go_wp2
  go_ret2
  exact ⟨w2.heap.size, kB, rfl, HL2.out, hcg.out, HT5.out, HB5.out⟩


set_option maxHeartbeats 4000000 in
theorem ropen_d (w : World) (h : RefAt w rB LB n d) (hdead : d.dead = false) {a b : Nat} (hab : a ≠ b ∧ a < n ∧ b < n) {W : Int} (hW : 1 ≤ W ∧ W ≤ 1099511627776) {r : C.M.Rc} (hd : C.M.dec (there d a b).text.data.toList = some r) (hk : r.kind = 40) (hn : r.nums.length = 4) (ht : r.texts.length ≠ 0) :
    Calls Tryz.prog 8 #[.pointer (some ⟨rB, 0, none⟩), .int .i64 (a : Int), .int .i64 (b : Int), .int .i64 W] w fun e w' => ∃ vB kB, e = .returned (.tuple #[.pointer (some ⟨vB, 0, none⟩), .int .i64 0]) ∧ w.heap.size ≤ vB ∧ w.heap.size ≤ kB ∧
      RX w' rB LB n d vB kB a b (there d a b) Fx.zero W W ∧ Below w.heap.size w w' := by
  have hw1 : ¬ W < 1 := by omega
  have hw2 : ¬ 1099511627776 < W := by omega
  have HO := Lib.hid (ropen_yes w h hdead a b hab.1 hab.2.1 hab.2.2)
  change Hid (Calls Tryz.prog 30 #[.pointer (some ⟨rB, 0, none⟩), .int .i64 (a : Int), .int .i64 (b : Int)] w fun e w' => ∃ kB z, e = .returned (.tuple #[.pointer (some ⟨kB, 0, none⟩), .int .i64 0]) ∧ w.heap.size ≤ kB ∧ ZO z (there d a b).o ∧ RCell w' kB rB a b z (there d a b) ∧ Below w.heap.size w w') at HO
  have htx : (there d a b).text.size ≤ 65536 := by have : (there d a b).text.size ≤ 100 := M.found_text _ _; omega
  have HN := Lib.hid (fun (w2 : World) (kB z : Nat) => @rx_new rB LB n d w w2 h a b kB z W hab hW)
  have HD := Lib.hid (fun w' => rdec_ok w' (there d a b).text htx r hd)
  rw [hk] at HD
  have HLen : Hid (∀ w' B aN nN cN aT nT cT, RecOwn w' B r aN nN cN aT nT cT → nN = 4 ∧ ((nT : Int) != 0) = true) := Lib.hid fun _ _ _ _ _ _ _ _ h => ⟨h.at.lenN.trans hn, by rw [bne_iff_ne]; have := h.at.lenT; omega⟩
  clear hd hk hn ht
  have HTx : Hid (∀ w2 kB z, RCell w2 kB rB a b z (there d a b) → w2.cell? ⟨kB, 5, none⟩ = some (.string (there d a b).text) ∧ kB < w2.heap.size) := Lib.hid fun w2 kB z h => ⟨h.p5, h.lt⟩
  clear h hdead hab hW htx
  generalize (there d a b).text = s at *
  generalize there d a b = C0 at *
  go_enter Tryz.func8, Tryz.ntmps8
  go_upto_region 8 with (first
    | (go_at_call 30; with_reducible refine HO.out.mono ?_; rintro e w2 ⟨kB, z, rfl, hc1, hz, hc2, hb2⟩
       have HT := Lib.hid (HN.out w2 kB z hc1 hz hc2 hb2)
       have HB2 := Lib.hid (hb2.alloc hb2.size (.cells #[.pointer (some ⟨kB, 0, none⟩), .int .i64 0, .int .i64 (-1), .int .i64 3, .int .i64 0, .int .i64 W, .int .i64 W] 54))
       have HL2 := Lib.hid hb2.size
       have hcg := Lib.hid hc1
       obtain ⟨p5', hlt5⟩ := HTx.out _ _ _ hc2
       have p5 := (((Below.refl w2.heap.size w2).alloc (Nat.le_refl _) (.cells #[.pointer (some ⟨kB, 0, none⟩), .int .i64 0, .int .i64 (-1), .int .i64 3, .int .i64 0, .int .i64 W, .int .i64 W] 54)).cell (p := ⟨kB, 5, none⟩) hlt5).trans p5'
       have kc := Ml.conv_str (w2.alloc (.cells #[.pointer (some ⟨kB, 0, none⟩), .int .i64 0, .int .i64 (-1), .int .i64 3, .int .i64 0, .int .i64 W, .int .i64 W] 54)) s
       have HDc := Lib.hid (HD.out (w2.alloc (.cells #[.pointer (some ⟨kB, 0, none⟩), .int .i64 0, .int .i64 (-1), .int .i64 3, .int .i64 0, .int .i64 W, .int .i64 W] 54)))
       rw [show (w2.alloc (.cells #[.pointer (some ⟨kB, 0, none⟩), .int .i64 0, .int .i64 (-1), .int .i64 3, .int .i64 0, .int .i64 W, .int .i64 W] 54)).heap.size = w2.heap.size + 1 by simp] at HDc
       clear hc1 hc2 hb2 hz p5' hlt5)
    | (go_at_call 31; with_reducible refine HDc.out.mono ?_; rintro e1 w4 ⟨aN, nN, cN, aT, nT, cT, rfl, hr, hb⟩
       have HB4 : Hid (Below w.heap.size w w4) := Lib.hid (HB2.out.trans (hb.mono (by have := HB2.out.size; simp at this; omega)))
       have HT4 := Lib.hid (HT.out.below (by simpa using hb))
       obtain ⟨rfl, hl0⟩ := HLen.out _ _ _ _ _ _ _ _ hr
       clear hb hr))
  have HT5 := Lib.hid (HT4.out.below ((Below.refl _ _).alloc (Nat.le_refl _) (.cells #[.int .i64 40, .slice aN 4 cN, .slice aT nT cT] 80)))
  have HB5 := Lib.hid (HB4.out.alloc HB4.out.size (.cells #[.int .i64 40, .slice aN 4 cN, .slice aT nT cT] 80))
  go_wp2
  go_ret2
  exact ⟨w2.heap.size, kB, rfl, HL2.out, hcg.out, HT5.out, HB5.out⟩


set_option maxHeartbeats 4000000 in
theorem ropen_e0 (w : World) (h : RefAt w rB LB n d) (hdead : d.dead = false) {a b : Nat} (hab : a ≠ b ∧ a < n ∧ b < n) {W : Int} (hW : 1 ≤ W ∧ W ≤ 1099511627776) {r : C.M.Rc} (hd : C.M.dec (there d a b).text.data.toList = some r) (hk : r.kind = 40) (ht : r.texts.length = 0) {x0 x1 x2 x3 : Int} (hs : r.nums = [x0, x1, x2, x3]) (g0 : x0 < 0) :
    Calls Tryz.prog 8 #[.pointer (some ⟨rB, 0, none⟩), .int .i64 (a : Int), .int .i64 (b : Int), .int .i64 W] w fun e w' => ∃ vB kB, e = .returned (.tuple #[.pointer (some ⟨vB, 0, none⟩), .int .i64 0]) ∧ w.heap.size ≤ vB ∧ w.heap.size ≤ kB ∧
      RX w' rB LB n d vB kB a b (there d a b) Fx.zero W W ∧ Below w.heap.size w w' := by
  have hw1 : ¬ W < 1 := by omega
  have hw2 : ¬ 1099511627776 < W := by omega
  have HO := Lib.hid (ropen_yes w h hdead a b hab.1 hab.2.1 hab.2.2)
  change Hid (Calls Tryz.prog 30 #[.pointer (some ⟨rB, 0, none⟩), .int .i64 (a : Int), .int .i64 (b : Int)] w fun e w' => ∃ kB z, e = .returned (.tuple #[.pointer (some ⟨kB, 0, none⟩), .int .i64 0]) ∧ w.heap.size ≤ kB ∧ ZO z (there d a b).o ∧ RCell w' kB rB a b z (there d a b) ∧ Below w.heap.size w w') at HO
  have htx : (there d a b).text.size ≤ 65536 := by have : (there d a b).text.size ≤ 100 := M.found_text _ _; omega
  have HN := Lib.hid (fun (w2 : World) (kB z : Nat) => @rx_new rB LB n d w w2 h a b kB z W hab hW)
  have HD := Lib.hid (fun w' => rdec_ok w' (there d a b).text htx r hd)
  rw [hk] at HD
  have HLen : Hid (∀ w' B aN nN cN aT nT cT, RecOwn w' B r aN nN cN aT nT cT → nT = 0) := Lib.hid fun _ _ _ _ _ _ _ _ h => h.at.lenT.trans ht
  have HNm : Hid (∀ (w : World) (B : Nat) (aN : Option Addr) (nN cN : Nat) (aT : Option Addr) (nT cT : Nat), RecOwn w B r aN nN cN aT nT cT → ∃ b, aN = some ⟨b, 0, none⟩ ∧ (B ≤ b ∧ b < w.heap.size) ∧ nN = 4 ∧ 4 ≤ cN ∧ cN ≤ maxLen ∧ w.cell? ⟨b, 0, none⟩ = some (.int .i64 x0) ∧ w.cell? ⟨b, 1, none⟩ = some (.int .i64 x1) ∧ w.cell? ⟨b, 2, none⟩ = some (.int .i64 x2) ∧ w.cell? ⟨b, 3, none⟩ = some (.int .i64 x3)) := Lib.hid fun w B aN nN cN aT nT cT h => rec_nums2 hs h
  clear hd hk ht hs
  have HTx : Hid (∀ w2 kB z, RCell w2 kB rB a b z (there d a b) → w2.cell? ⟨kB, 5, none⟩ = some (.string (there d a b).text) ∧ kB < w2.heap.size) := Lib.hid fun w2 kB z h => ⟨h.p5, h.lt⟩
  clear h hdead hab hW htx
  generalize (there d a b).text = s at *
  generalize there d a b = C0 at *
  go_enter Tryz.func8, Tryz.ntmps8
  go_upto_region 8 with (first
    | (go_at_call 30; with_reducible refine HO.out.mono ?_; rintro e w2 ⟨kB, z, rfl, hc1, hz, hc2, hb2⟩
       have HT := Lib.hid (HN.out w2 kB z hc1 hz hc2 hb2)
       have HB2 := Lib.hid (hb2.alloc hb2.size (.cells #[.pointer (some ⟨kB, 0, none⟩), .int .i64 0, .int .i64 (-1), .int .i64 3, .int .i64 0, .int .i64 W, .int .i64 W] 54))
       have HL2 := Lib.hid hb2.size
       have hcg := Lib.hid hc1
       obtain ⟨p5', hlt5⟩ := HTx.out _ _ _ hc2
       have p5 := (((Below.refl w2.heap.size w2).alloc (Nat.le_refl _) (.cells #[.pointer (some ⟨kB, 0, none⟩), .int .i64 0, .int .i64 (-1), .int .i64 3, .int .i64 0, .int .i64 W, .int .i64 W] 54)).cell (p := ⟨kB, 5, none⟩) hlt5).trans p5'
       have kc := Ml.conv_str (w2.alloc (.cells #[.pointer (some ⟨kB, 0, none⟩), .int .i64 0, .int .i64 (-1), .int .i64 3, .int .i64 0, .int .i64 W, .int .i64 W] 54)) s
       have HDc := Lib.hid (HD.out (w2.alloc (.cells #[.pointer (some ⟨kB, 0, none⟩), .int .i64 0, .int .i64 (-1), .int .i64 3, .int .i64 0, .int .i64 W, .int .i64 W] 54)))
       rw [show (w2.alloc (.cells #[.pointer (some ⟨kB, 0, none⟩), .int .i64 0, .int .i64 (-1), .int .i64 3, .int .i64 0, .int .i64 W, .int .i64 W] 54)).heap.size = w2.heap.size + 1 by simp] at HDc
       clear hc1 hc2 hb2 hz p5' hlt5)
    | (go_at_call 31; with_reducible refine HDc.out.mono ?_; rintro e1 w4 ⟨aN, nN, cN, aT, nT, cT, rfl, hr, hb⟩
       have HB4 : Hid (Below w.heap.size w w4) := Lib.hid (HB2.out.trans (hb.mono (by have := HB2.out.size; simp at this; omega)))
       have HT4 := Lib.hid (HT.out.below (by simpa using hb))
       obtain rfl := HLen.out _ _ _ _ _ _ _ _ hr
       obtain ⟨bN, rfl, hbN, rfl, hcap1, hcap2, n0, n1, n2, n3⟩ := HNm.out _ _ _ _ _ _ _ _ hr
       have HK := (Below.refl w4.heap.size w4).alloc (Nat.le_refl _) (.cells #[.int .i64 40, .slice (some ⟨bN, 0, none⟩) 4 cN, .slice aT 0 cT] 80)
       have k0 := (HK.cell (p := ⟨bN, 0, none⟩) hbN.2).trans n0
       have k1 := (HK.cell (p := ⟨bN, 1, none⟩) hbN.2).trans n1
       have k2 := (HK.cell (p := ⟨bN, 2, none⟩) hbN.2).trans n2
       have k3 := (HK.cell (p := ⟨bN, 3, none⟩) hbN.2).trans n3
       have HbN := Lib.hid hbN.1
       simp only [maxLen] at hcap2
       clear hb hr HK n0 n1 n2 n3 hbN))
  have HT5 := Lib.hid (HT4.out.below ((Below.refl _ _).alloc (Nat.le_refl _) (.cells #[.int .i64 40, .slice (some ⟨bN, 0, none⟩) 4 cN, .slice aT 0 cT] 80)))
  have HB5 := Lib.hid (HB4.out.alloc HB4.out.size (.cells #[.int .i64 40, .slice (some ⟨bN, 0, none⟩) 4 cN, .slice aT 0 cT] 80))
  go_wp2
  go_ret2
  exact ⟨w2.heap.size, kB, rfl, HL2.out, hcg.out, HT5.out, HB5.out⟩


set_option maxHeartbeats 4000000 in
theorem ropen_e1 (w : World) (h : RefAt w rB LB n d) (hdead : d.dead = false) {a b : Nat} (hab : a ≠ b ∧ a < n ∧ b < n) {W : Int} (hW : 1 ≤ W ∧ W ≤ 1099511627776) {r : C.M.Rc} (hd : C.M.dec (there d a b).text.data.toList = some r) (hk : r.kind = 40) (ht : r.texts.length = 0) {x0 x1 x2 x3 : Int} (hs : r.nums = [x0, x1, x2, x3]) (g0 : ¬ x0 < 0) (g1 : 4611686018427387904 < x0) :
    Calls Tryz.prog 8 #[.pointer (some ⟨rB, 0, none⟩), .int .i64 (a : Int), .int .i64 (b : Int), .int .i64 W] w fun e w' => ∃ vB kB, e = .returned (.tuple #[.pointer (some ⟨vB, 0, none⟩), .int .i64 0]) ∧ w.heap.size ≤ vB ∧ w.heap.size ≤ kB ∧
      RX w' rB LB n d vB kB a b (there d a b) Fx.zero W W ∧ Below w.heap.size w w' := by
  have hw1 : ¬ W < 1 := by omega
  have hw2 : ¬ 1099511627776 < W := by omega
  have HO := Lib.hid (ropen_yes w h hdead a b hab.1 hab.2.1 hab.2.2)
  change Hid (Calls Tryz.prog 30 #[.pointer (some ⟨rB, 0, none⟩), .int .i64 (a : Int), .int .i64 (b : Int)] w fun e w' => ∃ kB z, e = .returned (.tuple #[.pointer (some ⟨kB, 0, none⟩), .int .i64 0]) ∧ w.heap.size ≤ kB ∧ ZO z (there d a b).o ∧ RCell w' kB rB a b z (there d a b) ∧ Below w.heap.size w w') at HO
  have htx : (there d a b).text.size ≤ 65536 := by have : (there d a b).text.size ≤ 100 := M.found_text _ _; omega
  have HN := Lib.hid (fun (w2 : World) (kB z : Nat) => @rx_new rB LB n d w w2 h a b kB z W hab hW)
  have HD := Lib.hid (fun w' => rdec_ok w' (there d a b).text htx r hd)
  rw [hk] at HD
  have HLen : Hid (∀ w' B aN nN cN aT nT cT, RecOwn w' B r aN nN cN aT nT cT → nT = 0) := Lib.hid fun _ _ _ _ _ _ _ _ h => h.at.lenT.trans ht
  have HNm : Hid (∀ (w : World) (B : Nat) (aN : Option Addr) (nN cN : Nat) (aT : Option Addr) (nT cT : Nat), RecOwn w B r aN nN cN aT nT cT → ∃ b, aN = some ⟨b, 0, none⟩ ∧ (B ≤ b ∧ b < w.heap.size) ∧ nN = 4 ∧ 4 ≤ cN ∧ cN ≤ maxLen ∧ w.cell? ⟨b, 0, none⟩ = some (.int .i64 x0) ∧ w.cell? ⟨b, 1, none⟩ = some (.int .i64 x1) ∧ w.cell? ⟨b, 2, none⟩ = some (.int .i64 x2) ∧ w.cell? ⟨b, 3, none⟩ = some (.int .i64 x3)) := Lib.hid fun w B aN nN cN aT nT cT h => rec_nums2 hs h
  clear hd hk ht hs
  have HTx : Hid (∀ w2 kB z, RCell w2 kB rB a b z (there d a b) → w2.cell? ⟨kB, 5, none⟩ = some (.string (there d a b).text) ∧ kB < w2.heap.size) := Lib.hid fun w2 kB z h => ⟨h.p5, h.lt⟩
  clear h hdead hab hW htx
  generalize (there d a b).text = s at *
  generalize there d a b = C0 at *
  go_enter Tryz.func8, Tryz.ntmps8
  go_upto_region 8 with (first
    | (go_at_call 30; with_reducible refine HO.out.mono ?_; rintro e w2 ⟨kB, z, rfl, hc1, hz, hc2, hb2⟩
       have HT := Lib.hid (HN.out w2 kB z hc1 hz hc2 hb2)
       have HB2 := Lib.hid (hb2.alloc hb2.size (.cells #[.pointer (some ⟨kB, 0, none⟩), .int .i64 0, .int .i64 (-1), .int .i64 3, .int .i64 0, .int .i64 W, .int .i64 W] 54))
       have HL2 := Lib.hid hb2.size
       have hcg := Lib.hid hc1
       obtain ⟨p5', hlt5⟩ := HTx.out _ _ _ hc2
       have p5 := (((Below.refl w2.heap.size w2).alloc (Nat.le_refl _) (.cells #[.pointer (some ⟨kB, 0, none⟩), .int .i64 0, .int .i64 (-1), .int .i64 3, .int .i64 0, .int .i64 W, .int .i64 W] 54)).cell (p := ⟨kB, 5, none⟩) hlt5).trans p5'
       have kc := Ml.conv_str (w2.alloc (.cells #[.pointer (some ⟨kB, 0, none⟩), .int .i64 0, .int .i64 (-1), .int .i64 3, .int .i64 0, .int .i64 W, .int .i64 W] 54)) s
       have HDc := Lib.hid (HD.out (w2.alloc (.cells #[.pointer (some ⟨kB, 0, none⟩), .int .i64 0, .int .i64 (-1), .int .i64 3, .int .i64 0, .int .i64 W, .int .i64 W] 54)))
       rw [show (w2.alloc (.cells #[.pointer (some ⟨kB, 0, none⟩), .int .i64 0, .int .i64 (-1), .int .i64 3, .int .i64 0, .int .i64 W, .int .i64 W] 54)).heap.size = w2.heap.size + 1 by simp] at HDc
       clear hc1 hc2 hb2 hz p5' hlt5)
    | (go_at_call 31; with_reducible refine HDc.out.mono ?_; rintro e1 w4 ⟨aN, nN, cN, aT, nT, cT, rfl, hr, hb⟩
       have HB4 : Hid (Below w.heap.size w w4) := Lib.hid (HB2.out.trans (hb.mono (by have := HB2.out.size; simp at this; omega)))
       have HT4 := Lib.hid (HT.out.below (by simpa using hb))
       obtain rfl := HLen.out _ _ _ _ _ _ _ _ hr
       obtain ⟨bN, rfl, hbN, rfl, hcap1, hcap2, n0, n1, n2, n3⟩ := HNm.out _ _ _ _ _ _ _ _ hr
       have HK := (Below.refl w4.heap.size w4).alloc (Nat.le_refl _) (.cells #[.int .i64 40, .slice (some ⟨bN, 0, none⟩) 4 cN, .slice aT 0 cT] 80)
       have k0 := (HK.cell (p := ⟨bN, 0, none⟩) hbN.2).trans n0
       have k1 := (HK.cell (p := ⟨bN, 1, none⟩) hbN.2).trans n1
       have k2 := (HK.cell (p := ⟨bN, 2, none⟩) hbN.2).trans n2
       have k3 := (HK.cell (p := ⟨bN, 3, none⟩) hbN.2).trans n3
       have HbN := Lib.hid hbN.1
       simp only [maxLen] at hcap2
       clear hb hr HK n0 n1 n2 n3 hbN))
  have HT5 := Lib.hid (HT4.out.below ((Below.refl _ _).alloc (Nat.le_refl _) (.cells #[.int .i64 40, .slice (some ⟨bN, 0, none⟩) 4 cN, .slice aT 0 cT] 80)))
  have HB5 := Lib.hid (HB4.out.alloc HB4.out.size (.cells #[.int .i64 40, .slice (some ⟨bN, 0, none⟩) 4 cN, .slice aT 0 cT] 80))
  go_wp2
  go_ret2
  exact ⟨w2.heap.size, kB, rfl, HL2.out, hcg.out, HT5.out, HB5.out⟩


set_option maxHeartbeats 4000000 in
theorem ropen_e2 (w : World) (h : RefAt w rB LB n d) (hdead : d.dead = false) {a b : Nat} (hab : a ≠ b ∧ a < n ∧ b < n) {W : Int} (hW : 1 ≤ W ∧ W ≤ 1099511627776) {r : C.M.Rc} (hd : C.M.dec (there d a b).text.data.toList = some r) (hk : r.kind = 40) (ht : r.texts.length = 0) {x0 x1 x2 x3 : Int} (hs : r.nums = [x0, x1, x2, x3]) (g0 : ¬ x0 < 0) (g1 : ¬ 4611686018427387904 < x0) (g2 : x1 < -1) :
    Calls Tryz.prog 8 #[.pointer (some ⟨rB, 0, none⟩), .int .i64 (a : Int), .int .i64 (b : Int), .int .i64 W] w fun e w' => ∃ vB kB, e = .returned (.tuple #[.pointer (some ⟨vB, 0, none⟩), .int .i64 0]) ∧ w.heap.size ≤ vB ∧ w.heap.size ≤ kB ∧
      RX w' rB LB n d vB kB a b (there d a b) Fx.zero W W ∧ Below w.heap.size w w' := by
  have hw1 : ¬ W < 1 := by omega
  have hw2 : ¬ 1099511627776 < W := by omega
  have HO := Lib.hid (ropen_yes w h hdead a b hab.1 hab.2.1 hab.2.2)
  change Hid (Calls Tryz.prog 30 #[.pointer (some ⟨rB, 0, none⟩), .int .i64 (a : Int), .int .i64 (b : Int)] w fun e w' => ∃ kB z, e = .returned (.tuple #[.pointer (some ⟨kB, 0, none⟩), .int .i64 0]) ∧ w.heap.size ≤ kB ∧ ZO z (there d a b).o ∧ RCell w' kB rB a b z (there d a b) ∧ Below w.heap.size w w') at HO
  have htx : (there d a b).text.size ≤ 65536 := by have : (there d a b).text.size ≤ 100 := M.found_text _ _; omega
  have HN := Lib.hid (fun (w2 : World) (kB z : Nat) => @rx_new rB LB n d w w2 h a b kB z W hab hW)
  have HD := Lib.hid (fun w' => rdec_ok w' (there d a b).text htx r hd)
  rw [hk] at HD
  have HLen : Hid (∀ w' B aN nN cN aT nT cT, RecOwn w' B r aN nN cN aT nT cT → nT = 0) := Lib.hid fun _ _ _ _ _ _ _ _ h => h.at.lenT.trans ht
  have HNm : Hid (∀ (w : World) (B : Nat) (aN : Option Addr) (nN cN : Nat) (aT : Option Addr) (nT cT : Nat), RecOwn w B r aN nN cN aT nT cT → ∃ b, aN = some ⟨b, 0, none⟩ ∧ (B ≤ b ∧ b < w.heap.size) ∧ nN = 4 ∧ 4 ≤ cN ∧ cN ≤ maxLen ∧ w.cell? ⟨b, 0, none⟩ = some (.int .i64 x0) ∧ w.cell? ⟨b, 1, none⟩ = some (.int .i64 x1) ∧ w.cell? ⟨b, 2, none⟩ = some (.int .i64 x2) ∧ w.cell? ⟨b, 3, none⟩ = some (.int .i64 x3)) := Lib.hid fun w B aN nN cN aT nT cT h => rec_nums2 hs h
  clear hd hk ht hs
  have HTx : Hid (∀ w2 kB z, RCell w2 kB rB a b z (there d a b) → w2.cell? ⟨kB, 5, none⟩ = some (.string (there d a b).text) ∧ kB < w2.heap.size) := Lib.hid fun w2 kB z h => ⟨h.p5, h.lt⟩
  clear h hdead hab hW htx
  generalize (there d a b).text = s at *
  generalize there d a b = C0 at *
  go_enter Tryz.func8, Tryz.ntmps8
  go_upto_region 8 with (first
    | (go_at_call 30; with_reducible refine HO.out.mono ?_; rintro e w2 ⟨kB, z, rfl, hc1, hz, hc2, hb2⟩
       have HT := Lib.hid (HN.out w2 kB z hc1 hz hc2 hb2)
       have HB2 := Lib.hid (hb2.alloc hb2.size (.cells #[.pointer (some ⟨kB, 0, none⟩), .int .i64 0, .int .i64 (-1), .int .i64 3, .int .i64 0, .int .i64 W, .int .i64 W] 54))
       have HL2 := Lib.hid hb2.size
       have hcg := Lib.hid hc1
       obtain ⟨p5', hlt5⟩ := HTx.out _ _ _ hc2
       have p5 := (((Below.refl w2.heap.size w2).alloc (Nat.le_refl _) (.cells #[.pointer (some ⟨kB, 0, none⟩), .int .i64 0, .int .i64 (-1), .int .i64 3, .int .i64 0, .int .i64 W, .int .i64 W] 54)).cell (p := ⟨kB, 5, none⟩) hlt5).trans p5'
       have kc := Ml.conv_str (w2.alloc (.cells #[.pointer (some ⟨kB, 0, none⟩), .int .i64 0, .int .i64 (-1), .int .i64 3, .int .i64 0, .int .i64 W, .int .i64 W] 54)) s
       have HDc := Lib.hid (HD.out (w2.alloc (.cells #[.pointer (some ⟨kB, 0, none⟩), .int .i64 0, .int .i64 (-1), .int .i64 3, .int .i64 0, .int .i64 W, .int .i64 W] 54)))
       rw [show (w2.alloc (.cells #[.pointer (some ⟨kB, 0, none⟩), .int .i64 0, .int .i64 (-1), .int .i64 3, .int .i64 0, .int .i64 W, .int .i64 W] 54)).heap.size = w2.heap.size + 1 by simp] at HDc
       clear hc1 hc2 hb2 hz p5' hlt5)
    | (go_at_call 31; with_reducible refine HDc.out.mono ?_; rintro e1 w4 ⟨aN, nN, cN, aT, nT, cT, rfl, hr, hb⟩
       have HB4 : Hid (Below w.heap.size w w4) := Lib.hid (HB2.out.trans (hb.mono (by have := HB2.out.size; simp at this; omega)))
       have HT4 := Lib.hid (HT.out.below (by simpa using hb))
       obtain rfl := HLen.out _ _ _ _ _ _ _ _ hr
       obtain ⟨bN, rfl, hbN, rfl, hcap1, hcap2, n0, n1, n2, n3⟩ := HNm.out _ _ _ _ _ _ _ _ hr
       have HK := (Below.refl w4.heap.size w4).alloc (Nat.le_refl _) (.cells #[.int .i64 40, .slice (some ⟨bN, 0, none⟩) 4 cN, .slice aT 0 cT] 80)
       have k0 := (HK.cell (p := ⟨bN, 0, none⟩) hbN.2).trans n0
       have k1 := (HK.cell (p := ⟨bN, 1, none⟩) hbN.2).trans n1
       have k2 := (HK.cell (p := ⟨bN, 2, none⟩) hbN.2).trans n2
       have k3 := (HK.cell (p := ⟨bN, 3, none⟩) hbN.2).trans n3
       have HbN := Lib.hid hbN.1
       simp only [maxLen] at hcap2
       clear hb hr HK n0 n1 n2 n3 hbN))
  have HT5 := Lib.hid (HT4.out.below ((Below.refl _ _).alloc (Nat.le_refl _) (.cells #[.int .i64 40, .slice (some ⟨bN, 0, none⟩) 4 cN, .slice aT 0 cT] 80)))
  have HB5 := Lib.hid (HB4.out.alloc HB4.out.size (.cells #[.int .i64 40, .slice (some ⟨bN, 0, none⟩) 4 cN, .slice aT 0 cT] 80))
  go_wp2
  go_ret2
  exact ⟨w2.heap.size, kB, rfl, HL2.out, hcg.out, HT5.out, HB5.out⟩


set_option maxHeartbeats 4000000 in
theorem ropen_e3 (w : World) (h : RefAt w rB LB n d) (hdead : d.dead = false) {a b : Nat} (hab : a ≠ b ∧ a < n ∧ b < n) {W : Int} (hW : 1 ≤ W ∧ W ≤ 1099511627776) {r : C.M.Rc} (hd : C.M.dec (there d a b).text.data.toList = some r) (hk : r.kind = 40) (ht : r.texts.length = 0) {x0 x1 x2 x3 : Int} (hs : r.nums = [x0, x1, x2, x3]) (g0 : ¬ x0 < 0) (g1 : ¬ 4611686018427387904 < x0) (g2 : ¬ x1 < -1) (g3 : 1 < x1) :
    Calls Tryz.prog 8 #[.pointer (some ⟨rB, 0, none⟩), .int .i64 (a : Int), .int .i64 (b : Int), .int .i64 W] w fun e w' => ∃ vB kB, e = .returned (.tuple #[.pointer (some ⟨vB, 0, none⟩), .int .i64 0]) ∧ w.heap.size ≤ vB ∧ w.heap.size ≤ kB ∧
      RX w' rB LB n d vB kB a b (there d a b) Fx.zero W W ∧ Below w.heap.size w w' := by
  have hw1 : ¬ W < 1 := by omega
  have hw2 : ¬ 1099511627776 < W := by omega
  have HO := Lib.hid (ropen_yes w h hdead a b hab.1 hab.2.1 hab.2.2)
  change Hid (Calls Tryz.prog 30 #[.pointer (some ⟨rB, 0, none⟩), .int .i64 (a : Int), .int .i64 (b : Int)] w fun e w' => ∃ kB z, e = .returned (.tuple #[.pointer (some ⟨kB, 0, none⟩), .int .i64 0]) ∧ w.heap.size ≤ kB ∧ ZO z (there d a b).o ∧ RCell w' kB rB a b z (there d a b) ∧ Below w.heap.size w w') at HO
  have htx : (there d a b).text.size ≤ 65536 := by have : (there d a b).text.size ≤ 100 := M.found_text _ _; omega
  have HN := Lib.hid (fun (w2 : World) (kB z : Nat) => @rx_new rB LB n d w w2 h a b kB z W hab hW)
  have HD := Lib.hid (fun w' => rdec_ok w' (there d a b).text htx r hd)
  rw [hk] at HD
  have HLen : Hid (∀ w' B aN nN cN aT nT cT, RecOwn w' B r aN nN cN aT nT cT → nT = 0) := Lib.hid fun _ _ _ _ _ _ _ _ h => h.at.lenT.trans ht
  have HNm : Hid (∀ (w : World) (B : Nat) (aN : Option Addr) (nN cN : Nat) (aT : Option Addr) (nT cT : Nat), RecOwn w B r aN nN cN aT nT cT → ∃ b, aN = some ⟨b, 0, none⟩ ∧ (B ≤ b ∧ b < w.heap.size) ∧ nN = 4 ∧ 4 ≤ cN ∧ cN ≤ maxLen ∧ w.cell? ⟨b, 0, none⟩ = some (.int .i64 x0) ∧ w.cell? ⟨b, 1, none⟩ = some (.int .i64 x1) ∧ w.cell? ⟨b, 2, none⟩ = some (.int .i64 x2) ∧ w.cell? ⟨b, 3, none⟩ = some (.int .i64 x3)) := Lib.hid fun w B aN nN cN aT nT cT h => rec_nums2 hs h
  clear hd hk ht hs
  have HTx : Hid (∀ w2 kB z, RCell w2 kB rB a b z (there d a b) → w2.cell? ⟨kB, 5, none⟩ = some (.string (there d a b).text) ∧ kB < w2.heap.size) := Lib.hid fun w2 kB z h => ⟨h.p5, h.lt⟩
  clear h hdead hab hW htx
  generalize (there d a b).text = s at *
  generalize there d a b = C0 at *
  go_enter Tryz.func8, Tryz.ntmps8
  go_upto_region 8 with (first
    | (go_at_call 30; with_reducible refine HO.out.mono ?_; rintro e w2 ⟨kB, z, rfl, hc1, hz, hc2, hb2⟩
       have HT := Lib.hid (HN.out w2 kB z hc1 hz hc2 hb2)
       have HB2 := Lib.hid (hb2.alloc hb2.size (.cells #[.pointer (some ⟨kB, 0, none⟩), .int .i64 0, .int .i64 (-1), .int .i64 3, .int .i64 0, .int .i64 W, .int .i64 W] 54))
       have HL2 := Lib.hid hb2.size
       have hcg := Lib.hid hc1
       obtain ⟨p5', hlt5⟩ := HTx.out _ _ _ hc2
       have p5 := (((Below.refl w2.heap.size w2).alloc (Nat.le_refl _) (.cells #[.pointer (some ⟨kB, 0, none⟩), .int .i64 0, .int .i64 (-1), .int .i64 3, .int .i64 0, .int .i64 W, .int .i64 W] 54)).cell (p := ⟨kB, 5, none⟩) hlt5).trans p5'
       have kc := Ml.conv_str (w2.alloc (.cells #[.pointer (some ⟨kB, 0, none⟩), .int .i64 0, .int .i64 (-1), .int .i64 3, .int .i64 0, .int .i64 W, .int .i64 W] 54)) s
       have HDc := Lib.hid (HD.out (w2.alloc (.cells #[.pointer (some ⟨kB, 0, none⟩), .int .i64 0, .int .i64 (-1), .int .i64 3, .int .i64 0, .int .i64 W, .int .i64 W] 54)))
       rw [show (w2.alloc (.cells #[.pointer (some ⟨kB, 0, none⟩), .int .i64 0, .int .i64 (-1), .int .i64 3, .int .i64 0, .int .i64 W, .int .i64 W] 54)).heap.size = w2.heap.size + 1 by simp] at HDc
       clear hc1 hc2 hb2 hz p5' hlt5)
    | (go_at_call 31; with_reducible refine HDc.out.mono ?_; rintro e1 w4 ⟨aN, nN, cN, aT, nT, cT, rfl, hr, hb⟩
       have HB4 : Hid (Below w.heap.size w w4) := Lib.hid (HB2.out.trans (hb.mono (by have := HB2.out.size; simp at this; omega)))
       have HT4 := Lib.hid (HT.out.below (by simpa using hb))
       obtain rfl := HLen.out _ _ _ _ _ _ _ _ hr
       obtain ⟨bN, rfl, hbN, rfl, hcap1, hcap2, n0, n1, n2, n3⟩ := HNm.out _ _ _ _ _ _ _ _ hr
       have HK := (Below.refl w4.heap.size w4).alloc (Nat.le_refl _) (.cells #[.int .i64 40, .slice (some ⟨bN, 0, none⟩) 4 cN, .slice aT 0 cT] 80)
       have k0 := (HK.cell (p := ⟨bN, 0, none⟩) hbN.2).trans n0
       have k1 := (HK.cell (p := ⟨bN, 1, none⟩) hbN.2).trans n1
       have k2 := (HK.cell (p := ⟨bN, 2, none⟩) hbN.2).trans n2
       have k3 := (HK.cell (p := ⟨bN, 3, none⟩) hbN.2).trans n3
       have HbN := Lib.hid hbN.1
       simp only [maxLen] at hcap2
       clear hb hr HK n0 n1 n2 n3 hbN))
  have HT5 := Lib.hid (HT4.out.below ((Below.refl _ _).alloc (Nat.le_refl _) (.cells #[.int .i64 40, .slice (some ⟨bN, 0, none⟩) 4 cN, .slice aT 0 cT] 80)))
  have HB5 := Lib.hid (HB4.out.alloc HB4.out.size (.cells #[.int .i64 40, .slice (some ⟨bN, 0, none⟩) 4 cN, .slice aT 0 cT] 80))
  go_wp2
  go_ret2
  exact ⟨w2.heap.size, kB, rfl, HL2.out, hcg.out, HT5.out, HB5.out⟩


set_option maxHeartbeats 4000000 in
theorem ropen_e4 (w : World) (h : RefAt w rB LB n d) (hdead : d.dead = false) {a b : Nat} (hab : a ≠ b ∧ a < n ∧ b < n) {W : Int} (hW : 1 ≤ W ∧ W ≤ 1099511627776) {r : C.M.Rc} (hd : C.M.dec (there d a b).text.data.toList = some r) (hk : r.kind = 40) (ht : r.texts.length = 0) {x0 x1 x2 x3 : Int} (hs : r.nums = [x0, x1, x2, x3]) (g0 : ¬ x0 < 0) (g1 : ¬ 4611686018427387904 < x0) (g2 : ¬ x1 < -1) (g3 : ¬ 1 < x1) (g4 : x2 < 1) :
    Calls Tryz.prog 8 #[.pointer (some ⟨rB, 0, none⟩), .int .i64 (a : Int), .int .i64 (b : Int), .int .i64 W] w fun e w' => ∃ vB kB, e = .returned (.tuple #[.pointer (some ⟨vB, 0, none⟩), .int .i64 0]) ∧ w.heap.size ≤ vB ∧ w.heap.size ≤ kB ∧
      RX w' rB LB n d vB kB a b (there d a b) Fx.zero W W ∧ Below w.heap.size w w' := by
  have hw1 : ¬ W < 1 := by omega
  have hw2 : ¬ 1099511627776 < W := by omega
  have HO := Lib.hid (ropen_yes w h hdead a b hab.1 hab.2.1 hab.2.2)
  change Hid (Calls Tryz.prog 30 #[.pointer (some ⟨rB, 0, none⟩), .int .i64 (a : Int), .int .i64 (b : Int)] w fun e w' => ∃ kB z, e = .returned (.tuple #[.pointer (some ⟨kB, 0, none⟩), .int .i64 0]) ∧ w.heap.size ≤ kB ∧ ZO z (there d a b).o ∧ RCell w' kB rB a b z (there d a b) ∧ Below w.heap.size w w') at HO
  have htx : (there d a b).text.size ≤ 65536 := by have : (there d a b).text.size ≤ 100 := M.found_text _ _; omega
  have HN := Lib.hid (fun (w2 : World) (kB z : Nat) => @rx_new rB LB n d w w2 h a b kB z W hab hW)
  have HD := Lib.hid (fun w' => rdec_ok w' (there d a b).text htx r hd)
  rw [hk] at HD
  have HLen : Hid (∀ w' B aN nN cN aT nT cT, RecOwn w' B r aN nN cN aT nT cT → nT = 0) := Lib.hid fun _ _ _ _ _ _ _ _ h => h.at.lenT.trans ht
  have HNm : Hid (∀ (w : World) (B : Nat) (aN : Option Addr) (nN cN : Nat) (aT : Option Addr) (nT cT : Nat), RecOwn w B r aN nN cN aT nT cT → ∃ b, aN = some ⟨b, 0, none⟩ ∧ (B ≤ b ∧ b < w.heap.size) ∧ nN = 4 ∧ 4 ≤ cN ∧ cN ≤ maxLen ∧ w.cell? ⟨b, 0, none⟩ = some (.int .i64 x0) ∧ w.cell? ⟨b, 1, none⟩ = some (.int .i64 x1) ∧ w.cell? ⟨b, 2, none⟩ = some (.int .i64 x2) ∧ w.cell? ⟨b, 3, none⟩ = some (.int .i64 x3)) := Lib.hid fun w B aN nN cN aT nT cT h => rec_nums2 hs h
  clear hd hk ht hs
  have HTx : Hid (∀ w2 kB z, RCell w2 kB rB a b z (there d a b) → w2.cell? ⟨kB, 5, none⟩ = some (.string (there d a b).text) ∧ kB < w2.heap.size) := Lib.hid fun w2 kB z h => ⟨h.p5, h.lt⟩
  clear h hdead hab hW htx
  generalize (there d a b).text = s at *
  generalize there d a b = C0 at *
  go_enter Tryz.func8, Tryz.ntmps8
  go_upto_region 8 with (first
    | (go_at_call 30; with_reducible refine HO.out.mono ?_; rintro e w2 ⟨kB, z, rfl, hc1, hz, hc2, hb2⟩
       have HT := Lib.hid (HN.out w2 kB z hc1 hz hc2 hb2)
       have HB2 := Lib.hid (hb2.alloc hb2.size (.cells #[.pointer (some ⟨kB, 0, none⟩), .int .i64 0, .int .i64 (-1), .int .i64 3, .int .i64 0, .int .i64 W, .int .i64 W] 54))
       have HL2 := Lib.hid hb2.size
       have hcg := Lib.hid hc1
       obtain ⟨p5', hlt5⟩ := HTx.out _ _ _ hc2
       have p5 := (((Below.refl w2.heap.size w2).alloc (Nat.le_refl _) (.cells #[.pointer (some ⟨kB, 0, none⟩), .int .i64 0, .int .i64 (-1), .int .i64 3, .int .i64 0, .int .i64 W, .int .i64 W] 54)).cell (p := ⟨kB, 5, none⟩) hlt5).trans p5'
       have kc := Ml.conv_str (w2.alloc (.cells #[.pointer (some ⟨kB, 0, none⟩), .int .i64 0, .int .i64 (-1), .int .i64 3, .int .i64 0, .int .i64 W, .int .i64 W] 54)) s
       have HDc := Lib.hid (HD.out (w2.alloc (.cells #[.pointer (some ⟨kB, 0, none⟩), .int .i64 0, .int .i64 (-1), .int .i64 3, .int .i64 0, .int .i64 W, .int .i64 W] 54)))
       rw [show (w2.alloc (.cells #[.pointer (some ⟨kB, 0, none⟩), .int .i64 0, .int .i64 (-1), .int .i64 3, .int .i64 0, .int .i64 W, .int .i64 W] 54)).heap.size = w2.heap.size + 1 by simp] at HDc
       clear hc1 hc2 hb2 hz p5' hlt5)
    | (go_at_call 31; with_reducible refine HDc.out.mono ?_; rintro e1 w4 ⟨aN, nN, cN, aT, nT, cT, rfl, hr, hb⟩
       have HB4 : Hid (Below w.heap.size w w4) := Lib.hid (HB2.out.trans (hb.mono (by have := HB2.out.size; simp at this; omega)))
       have HT4 := Lib.hid (HT.out.below (by simpa using hb))
       obtain rfl := HLen.out _ _ _ _ _ _ _ _ hr
       obtain ⟨bN, rfl, hbN, rfl, hcap1, hcap2, n0, n1, n2, n3⟩ := HNm.out _ _ _ _ _ _ _ _ hr
       have HK := (Below.refl w4.heap.size w4).alloc (Nat.le_refl _) (.cells #[.int .i64 40, .slice (some ⟨bN, 0, none⟩) 4 cN, .slice aT 0 cT] 80)
       have k0 := (HK.cell (p := ⟨bN, 0, none⟩) hbN.2).trans n0
       have k1 := (HK.cell (p := ⟨bN, 1, none⟩) hbN.2).trans n1
       have k2 := (HK.cell (p := ⟨bN, 2, none⟩) hbN.2).trans n2
       have k3 := (HK.cell (p := ⟨bN, 3, none⟩) hbN.2).trans n3
       have HbN := Lib.hid hbN.1
       simp only [maxLen] at hcap2
       clear hb hr HK n0 n1 n2 n3 hbN))
  have HT5 := Lib.hid (HT4.out.below ((Below.refl _ _).alloc (Nat.le_refl _) (.cells #[.int .i64 40, .slice (some ⟨bN, 0, none⟩) 4 cN, .slice aT 0 cT] 80)))
  have HB5 := Lib.hid (HB4.out.alloc HB4.out.size (.cells #[.int .i64 40, .slice (some ⟨bN, 0, none⟩) 4 cN, .slice aT 0 cT] 80))
  go_wp2
  go_ret2
  exact ⟨w2.heap.size, kB, rfl, HL2.out, hcg.out, HT5.out, HB5.out⟩


set_option maxHeartbeats 4000000 in
theorem ropen_e5 (w : World) (h : RefAt w rB LB n d) (hdead : d.dead = false) {a b : Nat} (hab : a ≠ b ∧ a < n ∧ b < n) {W : Int} (hW : 1 ≤ W ∧ W ≤ 1099511627776) {r : C.M.Rc} (hd : C.M.dec (there d a b).text.data.toList = some r) (hk : r.kind = 40) (ht : r.texts.length = 0) {x0 x1 x2 x3 : Int} (hs : r.nums = [x0, x1, x2, x3]) (g0 : ¬ x0 < 0) (g1 : ¬ 4611686018427387904 < x0) (g2 : ¬ x1 < -1) (g3 : ¬ 1 < x1) (g4 : ¬ x2 < 1) (g5 : 3 < x2) :
    Calls Tryz.prog 8 #[.pointer (some ⟨rB, 0, none⟩), .int .i64 (a : Int), .int .i64 (b : Int), .int .i64 W] w fun e w' => ∃ vB kB, e = .returned (.tuple #[.pointer (some ⟨vB, 0, none⟩), .int .i64 0]) ∧ w.heap.size ≤ vB ∧ w.heap.size ≤ kB ∧
      RX w' rB LB n d vB kB a b (there d a b) Fx.zero W W ∧ Below w.heap.size w w' := by
  have hw1 : ¬ W < 1 := by omega
  have hw2 : ¬ 1099511627776 < W := by omega
  have HO := Lib.hid (ropen_yes w h hdead a b hab.1 hab.2.1 hab.2.2)
  change Hid (Calls Tryz.prog 30 #[.pointer (some ⟨rB, 0, none⟩), .int .i64 (a : Int), .int .i64 (b : Int)] w fun e w' => ∃ kB z, e = .returned (.tuple #[.pointer (some ⟨kB, 0, none⟩), .int .i64 0]) ∧ w.heap.size ≤ kB ∧ ZO z (there d a b).o ∧ RCell w' kB rB a b z (there d a b) ∧ Below w.heap.size w w') at HO
  have htx : (there d a b).text.size ≤ 65536 := by have : (there d a b).text.size ≤ 100 := M.found_text _ _; omega
  have HN := Lib.hid (fun (w2 : World) (kB z : Nat) => @rx_new rB LB n d w w2 h a b kB z W hab hW)
  have HD := Lib.hid (fun w' => rdec_ok w' (there d a b).text htx r hd)
  rw [hk] at HD
  have HLen : Hid (∀ w' B aN nN cN aT nT cT, RecOwn w' B r aN nN cN aT nT cT → nT = 0) := Lib.hid fun _ _ _ _ _ _ _ _ h => h.at.lenT.trans ht
  have HNm : Hid (∀ (w : World) (B : Nat) (aN : Option Addr) (nN cN : Nat) (aT : Option Addr) (nT cT : Nat), RecOwn w B r aN nN cN aT nT cT → ∃ b, aN = some ⟨b, 0, none⟩ ∧ (B ≤ b ∧ b < w.heap.size) ∧ nN = 4 ∧ 4 ≤ cN ∧ cN ≤ maxLen ∧ w.cell? ⟨b, 0, none⟩ = some (.int .i64 x0) ∧ w.cell? ⟨b, 1, none⟩ = some (.int .i64 x1) ∧ w.cell? ⟨b, 2, none⟩ = some (.int .i64 x2) ∧ w.cell? ⟨b, 3, none⟩ = some (.int .i64 x3)) := Lib.hid fun w B aN nN cN aT nT cT h => rec_nums2 hs h
  clear hd hk ht hs
  have HTx : Hid (∀ w2 kB z, RCell w2 kB rB a b z (there d a b) → w2.cell? ⟨kB, 5, none⟩ = some (.string (there d a b).text) ∧ kB < w2.heap.size) := Lib.hid fun w2 kB z h => ⟨h.p5, h.lt⟩
  clear h hdead hab hW htx
  generalize (there d a b).text = s at *
  generalize there d a b = C0 at *
  go_enter Tryz.func8, Tryz.ntmps8
  go_upto_region 8 with (first
    | (go_at_call 30; with_reducible refine HO.out.mono ?_; rintro e w2 ⟨kB, z, rfl, hc1, hz, hc2, hb2⟩
       have HT := Lib.hid (HN.out w2 kB z hc1 hz hc2 hb2)
       have HB2 := Lib.hid (hb2.alloc hb2.size (.cells #[.pointer (some ⟨kB, 0, none⟩), .int .i64 0, .int .i64 (-1), .int .i64 3, .int .i64 0, .int .i64 W, .int .i64 W] 54))
       have HL2 := Lib.hid hb2.size
       have hcg := Lib.hid hc1
       obtain ⟨p5', hlt5⟩ := HTx.out _ _ _ hc2
       have p5 := (((Below.refl w2.heap.size w2).alloc (Nat.le_refl _) (.cells #[.pointer (some ⟨kB, 0, none⟩), .int .i64 0, .int .i64 (-1), .int .i64 3, .int .i64 0, .int .i64 W, .int .i64 W] 54)).cell (p := ⟨kB, 5, none⟩) hlt5).trans p5'
       have kc := Ml.conv_str (w2.alloc (.cells #[.pointer (some ⟨kB, 0, none⟩), .int .i64 0, .int .i64 (-1), .int .i64 3, .int .i64 0, .int .i64 W, .int .i64 W] 54)) s
       have HDc := Lib.hid (HD.out (w2.alloc (.cells #[.pointer (some ⟨kB, 0, none⟩), .int .i64 0, .int .i64 (-1), .int .i64 3, .int .i64 0, .int .i64 W, .int .i64 W] 54)))
       rw [show (w2.alloc (.cells #[.pointer (some ⟨kB, 0, none⟩), .int .i64 0, .int .i64 (-1), .int .i64 3, .int .i64 0, .int .i64 W, .int .i64 W] 54)).heap.size = w2.heap.size + 1 by simp] at HDc
       clear hc1 hc2 hb2 hz p5' hlt5)
    | (go_at_call 31; with_reducible refine HDc.out.mono ?_; rintro e1 w4 ⟨aN, nN, cN, aT, nT, cT, rfl, hr, hb⟩
       have HB4 : Hid (Below w.heap.size w w4) := Lib.hid (HB2.out.trans (hb.mono (by have := HB2.out.size; simp at this; omega)))
       have HT4 := Lib.hid (HT.out.below (by simpa using hb))
       obtain rfl := HLen.out _ _ _ _ _ _ _ _ hr
       obtain ⟨bN, rfl, hbN, rfl, hcap1, hcap2, n0, n1, n2, n3⟩ := HNm.out _ _ _ _ _ _ _ _ hr
       have HK := (Below.refl w4.heap.size w4).alloc (Nat.le_refl _) (.cells #[.int .i64 40, .slice (some ⟨bN, 0, none⟩) 4 cN, .slice aT 0 cT] 80)
       have k0 := (HK.cell (p := ⟨bN, 0, none⟩) hbN.2).trans n0
       have k1 := (HK.cell (p := ⟨bN, 1, none⟩) hbN.2).trans n1
       have k2 := (HK.cell (p := ⟨bN, 2, none⟩) hbN.2).trans n2
       have k3 := (HK.cell (p := ⟨bN, 3, none⟩) hbN.2).trans n3
       have HbN := Lib.hid hbN.1
       simp only [maxLen] at hcap2
       clear hb hr HK n0 n1 n2 n3 hbN))
  have HT5 := Lib.hid (HT4.out.below ((Below.refl _ _).alloc (Nat.le_refl _) (.cells #[.int .i64 40, .slice (some ⟨bN, 0, none⟩) 4 cN, .slice aT 0 cT] 80)))
  have HB5 := Lib.hid (HB4.out.alloc HB4.out.size (.cells #[.int .i64 40, .slice (some ⟨bN, 0, none⟩) 4 cN, .slice aT 0 cT] 80))
  go_wp2
  go_ret2
  exact ⟨w2.heap.size, kB, rfl, HL2.out, hcg.out, HT5.out, HB5.out⟩


set_option maxHeartbeats 4000000 in
theorem ropen_e6 (w : World) (h : RefAt w rB LB n d) (hdead : d.dead = false) {a b : Nat} (hab : a ≠ b ∧ a < n ∧ b < n) {W : Int} (hW : 1 ≤ W ∧ W ≤ 1099511627776) {r : C.M.Rc} (hd : C.M.dec (there d a b).text.data.toList = some r) (hk : r.kind = 40) (ht : r.texts.length = 0) {x0 x1 x2 x3 : Int} (hs : r.nums = [x0, x1, x2, x3]) (g0 : ¬ x0 < 0) (g1 : ¬ 4611686018427387904 < x0) (g2 : ¬ x1 < -1) (g3 : ¬ 1 < x1) (g4 : ¬ x2 < 1) (g5 : ¬ 3 < x2) (g6 : x3 < 0) :
    Calls Tryz.prog 8 #[.pointer (some ⟨rB, 0, none⟩), .int .i64 (a : Int), .int .i64 (b : Int), .int .i64 W] w fun e w' => ∃ vB kB, e = .returned (.tuple #[.pointer (some ⟨vB, 0, none⟩), .int .i64 0]) ∧ w.heap.size ≤ vB ∧ w.heap.size ≤ kB ∧
      RX w' rB LB n d vB kB a b (there d a b) Fx.zero W W ∧ Below w.heap.size w w' := by
  have hw1 : ¬ W < 1 := by omega
  have hw2 : ¬ 1099511627776 < W := by omega
  have HO := Lib.hid (ropen_yes w h hdead a b hab.1 hab.2.1 hab.2.2)
  change Hid (Calls Tryz.prog 30 #[.pointer (some ⟨rB, 0, none⟩), .int .i64 (a : Int), .int .i64 (b : Int)] w fun e w' => ∃ kB z, e = .returned (.tuple #[.pointer (some ⟨kB, 0, none⟩), .int .i64 0]) ∧ w.heap.size ≤ kB ∧ ZO z (there d a b).o ∧ RCell w' kB rB a b z (there d a b) ∧ Below w.heap.size w w') at HO
  have htx : (there d a b).text.size ≤ 65536 := by have : (there d a b).text.size ≤ 100 := M.found_text _ _; omega
  have HN := Lib.hid (fun (w2 : World) (kB z : Nat) => @rx_new rB LB n d w w2 h a b kB z W hab hW)
  have HD := Lib.hid (fun w' => rdec_ok w' (there d a b).text htx r hd)
  rw [hk] at HD
  have HLen : Hid (∀ w' B aN nN cN aT nT cT, RecOwn w' B r aN nN cN aT nT cT → nT = 0) := Lib.hid fun _ _ _ _ _ _ _ _ h => h.at.lenT.trans ht
  have HNm : Hid (∀ (w : World) (B : Nat) (aN : Option Addr) (nN cN : Nat) (aT : Option Addr) (nT cT : Nat), RecOwn w B r aN nN cN aT nT cT → ∃ b, aN = some ⟨b, 0, none⟩ ∧ (B ≤ b ∧ b < w.heap.size) ∧ nN = 4 ∧ 4 ≤ cN ∧ cN ≤ maxLen ∧ w.cell? ⟨b, 0, none⟩ = some (.int .i64 x0) ∧ w.cell? ⟨b, 1, none⟩ = some (.int .i64 x1) ∧ w.cell? ⟨b, 2, none⟩ = some (.int .i64 x2) ∧ w.cell? ⟨b, 3, none⟩ = some (.int .i64 x3)) := Lib.hid fun w B aN nN cN aT nT cT h => rec_nums2 hs h
  clear hd hk ht hs
  have HTx : Hid (∀ w2 kB z, RCell w2 kB rB a b z (there d a b) → w2.cell? ⟨kB, 5, none⟩ = some (.string (there d a b).text) ∧ kB < w2.heap.size) := Lib.hid fun w2 kB z h => ⟨h.p5, h.lt⟩
  clear h hdead hab hW htx
  generalize (there d a b).text = s at *
  generalize there d a b = C0 at *
  go_enter Tryz.func8, Tryz.ntmps8
  go_upto_region 8 with (first
    | (go_at_call 30; with_reducible refine HO.out.mono ?_; rintro e w2 ⟨kB, z, rfl, hc1, hz, hc2, hb2⟩
       have HT := Lib.hid (HN.out w2 kB z hc1 hz hc2 hb2)
       have HB2 := Lib.hid (hb2.alloc hb2.size (.cells #[.pointer (some ⟨kB, 0, none⟩), .int .i64 0, .int .i64 (-1), .int .i64 3, .int .i64 0, .int .i64 W, .int .i64 W] 54))
       have HL2 := Lib.hid hb2.size
       have hcg := Lib.hid hc1
       obtain ⟨p5', hlt5⟩ := HTx.out _ _ _ hc2
       have p5 := (((Below.refl w2.heap.size w2).alloc (Nat.le_refl _) (.cells #[.pointer (some ⟨kB, 0, none⟩), .int .i64 0, .int .i64 (-1), .int .i64 3, .int .i64 0, .int .i64 W, .int .i64 W] 54)).cell (p := ⟨kB, 5, none⟩) hlt5).trans p5'
       have kc := Ml.conv_str (w2.alloc (.cells #[.pointer (some ⟨kB, 0, none⟩), .int .i64 0, .int .i64 (-1), .int .i64 3, .int .i64 0, .int .i64 W, .int .i64 W] 54)) s
       have HDc := Lib.hid (HD.out (w2.alloc (.cells #[.pointer (some ⟨kB, 0, none⟩), .int .i64 0, .int .i64 (-1), .int .i64 3, .int .i64 0, .int .i64 W, .int .i64 W] 54)))
       rw [show (w2.alloc (.cells #[.pointer (some ⟨kB, 0, none⟩), .int .i64 0, .int .i64 (-1), .int .i64 3, .int .i64 0, .int .i64 W, .int .i64 W] 54)).heap.size = w2.heap.size + 1 by simp] at HDc
       clear hc1 hc2 hb2 hz p5' hlt5)
    | (go_at_call 31; with_reducible refine HDc.out.mono ?_; rintro e1 w4 ⟨aN, nN, cN, aT, nT, cT, rfl, hr, hb⟩
       have HB4 : Hid (Below w.heap.size w w4) := Lib.hid (HB2.out.trans (hb.mono (by have := HB2.out.size; simp at this; omega)))
       have HT4 := Lib.hid (HT.out.below (by simpa using hb))
       obtain rfl := HLen.out _ _ _ _ _ _ _ _ hr
       obtain ⟨bN, rfl, hbN, rfl, hcap1, hcap2, n0, n1, n2, n3⟩ := HNm.out _ _ _ _ _ _ _ _ hr
       have HK := (Below.refl w4.heap.size w4).alloc (Nat.le_refl _) (.cells #[.int .i64 40, .slice (some ⟨bN, 0, none⟩) 4 cN, .slice aT 0 cT] 80)
       have k0 := (HK.cell (p := ⟨bN, 0, none⟩) hbN.2).trans n0
       have k1 := (HK.cell (p := ⟨bN, 1, none⟩) hbN.2).trans n1
       have k2 := (HK.cell (p := ⟨bN, 2, none⟩) hbN.2).trans n2
       have k3 := (HK.cell (p := ⟨bN, 3, none⟩) hbN.2).trans n3
       have HbN := Lib.hid hbN.1
       simp only [maxLen] at hcap2
       clear hb hr HK n0 n1 n2 n3 hbN))
  have HT5 := Lib.hid (HT4.out.below ((Below.refl _ _).alloc (Nat.le_refl _) (.cells #[.int .i64 40, .slice (some ⟨bN, 0, none⟩) 4 cN, .slice aT 0 cT] 80)))
  have HB5 := Lib.hid (HB4.out.alloc HB4.out.size (.cells #[.int .i64 40, .slice (some ⟨bN, 0, none⟩) 4 cN, .slice aT 0 cT] 80))
  go_wp2
  go_ret2
  exact ⟨w2.heap.size, kB, rfl, HL2.out, hcg.out, HT5.out, HB5.out⟩


set_option maxHeartbeats 4000000 in
theorem ropen_e7 (w : World) (h : RefAt w rB LB n d) (hdead : d.dead = false) {a b : Nat} (hab : a ≠ b ∧ a < n ∧ b < n) {W : Int} (hW : 1 ≤ W ∧ W ≤ 1099511627776) {r : C.M.Rc} (hd : C.M.dec (there d a b).text.data.toList = some r) (hk : r.kind = 40) (ht : r.texts.length = 0) {x0 x1 x2 x3 : Int} (hs : r.nums = [x0, x1, x2, x3]) (g0 : ¬ x0 < 0) (g1 : ¬ 4611686018427387904 < x0) (g2 : ¬ x1 < -1) (g3 : ¬ 1 < x1) (g4 : ¬ x2 < 1) (g5 : ¬ 3 < x2) (g6 : ¬ x3 < 0) (g7 : 4611686018427387904 < x3) :
    Calls Tryz.prog 8 #[.pointer (some ⟨rB, 0, none⟩), .int .i64 (a : Int), .int .i64 (b : Int), .int .i64 W] w fun e w' => ∃ vB kB, e = .returned (.tuple #[.pointer (some ⟨vB, 0, none⟩), .int .i64 0]) ∧ w.heap.size ≤ vB ∧ w.heap.size ≤ kB ∧
      RX w' rB LB n d vB kB a b (there d a b) Fx.zero W W ∧ Below w.heap.size w w' := by
  have hw1 : ¬ W < 1 := by omega
  have hw2 : ¬ 1099511627776 < W := by omega
  have HO := Lib.hid (ropen_yes w h hdead a b hab.1 hab.2.1 hab.2.2)
  change Hid (Calls Tryz.prog 30 #[.pointer (some ⟨rB, 0, none⟩), .int .i64 (a : Int), .int .i64 (b : Int)] w fun e w' => ∃ kB z, e = .returned (.tuple #[.pointer (some ⟨kB, 0, none⟩), .int .i64 0]) ∧ w.heap.size ≤ kB ∧ ZO z (there d a b).o ∧ RCell w' kB rB a b z (there d a b) ∧ Below w.heap.size w w') at HO
  have htx : (there d a b).text.size ≤ 65536 := by have : (there d a b).text.size ≤ 100 := M.found_text _ _; omega
  have HN := Lib.hid (fun (w2 : World) (kB z : Nat) => @rx_new rB LB n d w w2 h a b kB z W hab hW)
  have HD := Lib.hid (fun w' => rdec_ok w' (there d a b).text htx r hd)
  rw [hk] at HD
  have HLen : Hid (∀ w' B aN nN cN aT nT cT, RecOwn w' B r aN nN cN aT nT cT → nT = 0) := Lib.hid fun _ _ _ _ _ _ _ _ h => h.at.lenT.trans ht
  have HNm : Hid (∀ (w : World) (B : Nat) (aN : Option Addr) (nN cN : Nat) (aT : Option Addr) (nT cT : Nat), RecOwn w B r aN nN cN aT nT cT → ∃ b, aN = some ⟨b, 0, none⟩ ∧ (B ≤ b ∧ b < w.heap.size) ∧ nN = 4 ∧ 4 ≤ cN ∧ cN ≤ maxLen ∧ w.cell? ⟨b, 0, none⟩ = some (.int .i64 x0) ∧ w.cell? ⟨b, 1, none⟩ = some (.int .i64 x1) ∧ w.cell? ⟨b, 2, none⟩ = some (.int .i64 x2) ∧ w.cell? ⟨b, 3, none⟩ = some (.int .i64 x3)) := Lib.hid fun w B aN nN cN aT nT cT h => rec_nums2 hs h
  clear hd hk ht hs
  have HTx : Hid (∀ w2 kB z, RCell w2 kB rB a b z (there d a b) → w2.cell? ⟨kB, 5, none⟩ = some (.string (there d a b).text) ∧ kB < w2.heap.size) := Lib.hid fun w2 kB z h => ⟨h.p5, h.lt⟩
  clear h hdead hab hW htx
  generalize (there d a b).text = s at *
  generalize there d a b = C0 at *
  go_enter Tryz.func8, Tryz.ntmps8
  go_upto_region 8 with (first
    | (go_at_call 30; with_reducible refine HO.out.mono ?_; rintro e w2 ⟨kB, z, rfl, hc1, hz, hc2, hb2⟩
       have HT := Lib.hid (HN.out w2 kB z hc1 hz hc2 hb2)
       have HB2 := Lib.hid (hb2.alloc hb2.size (.cells #[.pointer (some ⟨kB, 0, none⟩), .int .i64 0, .int .i64 (-1), .int .i64 3, .int .i64 0, .int .i64 W, .int .i64 W] 54))
       have HL2 := Lib.hid hb2.size
       have hcg := Lib.hid hc1
       obtain ⟨p5', hlt5⟩ := HTx.out _ _ _ hc2
       have p5 := (((Below.refl w2.heap.size w2).alloc (Nat.le_refl _) (.cells #[.pointer (some ⟨kB, 0, none⟩), .int .i64 0, .int .i64 (-1), .int .i64 3, .int .i64 0, .int .i64 W, .int .i64 W] 54)).cell (p := ⟨kB, 5, none⟩) hlt5).trans p5'
       have kc := Ml.conv_str (w2.alloc (.cells #[.pointer (some ⟨kB, 0, none⟩), .int .i64 0, .int .i64 (-1), .int .i64 3, .int .i64 0, .int .i64 W, .int .i64 W] 54)) s
       have HDc := Lib.hid (HD.out (w2.alloc (.cells #[.pointer (some ⟨kB, 0, none⟩), .int .i64 0, .int .i64 (-1), .int .i64 3, .int .i64 0, .int .i64 W, .int .i64 W] 54)))
       rw [show (w2.alloc (.cells #[.pointer (some ⟨kB, 0, none⟩), .int .i64 0, .int .i64 (-1), .int .i64 3, .int .i64 0, .int .i64 W, .int .i64 W] 54)).heap.size = w2.heap.size + 1 by simp] at HDc
       clear hc1 hc2 hb2 hz p5' hlt5)
    | (go_at_call 31; with_reducible refine HDc.out.mono ?_; rintro e1 w4 ⟨aN, nN, cN, aT, nT, cT, rfl, hr, hb⟩
       have HB4 : Hid (Below w.heap.size w w4) := Lib.hid (HB2.out.trans (hb.mono (by have := HB2.out.size; simp at this; omega)))
       have HT4 := Lib.hid (HT.out.below (by simpa using hb))
       obtain rfl := HLen.out _ _ _ _ _ _ _ _ hr
       obtain ⟨bN, rfl, hbN, rfl, hcap1, hcap2, n0, n1, n2, n3⟩ := HNm.out _ _ _ _ _ _ _ _ hr
       have HK := (Below.refl w4.heap.size w4).alloc (Nat.le_refl _) (.cells #[.int .i64 40, .slice (some ⟨bN, 0, none⟩) 4 cN, .slice aT 0 cT] 80)
       have k0 := (HK.cell (p := ⟨bN, 0, none⟩) hbN.2).trans n0
       have k1 := (HK.cell (p := ⟨bN, 1, none⟩) hbN.2).trans n1
       have k2 := (HK.cell (p := ⟨bN, 2, none⟩) hbN.2).trans n2
       have k3 := (HK.cell (p := ⟨bN, 3, none⟩) hbN.2).trans n3
       have HbN := Lib.hid hbN.1
       simp only [maxLen] at hcap2
       clear hb hr HK n0 n1 n2 n3 hbN))
  have HT5 := Lib.hid (HT4.out.below ((Below.refl _ _).alloc (Nat.le_refl _) (.cells #[.int .i64 40, .slice (some ⟨bN, 0, none⟩) 4 cN, .slice aT 0 cT] 80)))
  have HB5 := Lib.hid (HB4.out.alloc HB4.out.size (.cells #[.int .i64 40, .slice (some ⟨bN, 0, none⟩) 4 cN, .slice aT 0 cT] 80))
  go_wp2
  go_ret2
  exact ⟨w2.heap.size, kB, rfl, HL2.out, hcg.out, HT5.out, HB5.out⟩


set_option maxHeartbeats 4000000 in
theorem ropen_f (w : World) (h : RefAt w rB LB n d) (hdead : d.dead = false) {a b : Nat} (hab : a ≠ b ∧ a < n ∧ b < n) {W : Int} (hW : 1 ≤ W ∧ W ≤ 1099511627776) {r : C.M.Rc} (hd : C.M.dec (there d a b).text.data.toList = some r) (hk : r.kind = 40) (ht : r.texts.length = 0) {x0 x1 x2 x3 : Int} (hs : r.nums = [x0, x1, x2, x3]) (g0 : ¬ x0 < 0) (g1 : ¬ 4611686018427387904 < x0) (g2 : ¬ x1 < -1) (g3 : ¬ 1 < x1) (g4 : ¬ x2 < 1) (g5 : ¬ 3 < x2) (g6 : ¬ x3 < 0) (g7 : ¬ 4611686018427387904 < x3) :
    Calls Tryz.prog 8 #[.pointer (some ⟨rB, 0, none⟩), .int .i64 (a : Int), .int .i64 (b : Int), .int .i64 W] w fun e w' => ∃ vB kB, e = .returned (.tuple #[.pointer (some ⟨vB, 0, none⟩), .int .i64 0]) ∧ w.heap.size ≤ vB ∧ w.heap.size ≤ kB ∧
      RX w' rB LB n d vB kB a b (there d a b) ⟨x0, x1, x2, x3⟩ W W ∧ Below w.heap.size w w' := by
  have hw1 : ¬ W < 1 := by omega
  have hw2 : ¬ 1099511627776 < W := by omega
  have HO := Lib.hid (ropen_yes w h hdead a b hab.1 hab.2.1 hab.2.2)
  change Hid (Calls Tryz.prog 30 #[.pointer (some ⟨rB, 0, none⟩), .int .i64 (a : Int), .int .i64 (b : Int)] w fun e w' => ∃ kB z, e = .returned (.tuple #[.pointer (some ⟨kB, 0, none⟩), .int .i64 0]) ∧ w.heap.size ≤ kB ∧ ZO z (there d a b).o ∧ RCell w' kB rB a b z (there d a b) ∧ Below w.heap.size w w') at HO
  have htx : (there d a b).text.size ≤ 65536 := by have : (there d a b).text.size ≤ 100 := M.found_text _ _; omega
  have HN := Lib.hid (fun (w2 : World) (kB z : Nat) => @rx_new rB LB n d w w2 h a b kB z W hab hW)
  have HD := Lib.hid (fun w' => rdec_ok w' (there d a b).text htx r hd)
  rw [hk] at HD
  have HLen : Hid (∀ w' B aN nN cN aT nT cT, RecOwn w' B r aN nN cN aT nT cT → nT = 0) := Lib.hid fun _ _ _ _ _ _ _ _ h => h.at.lenT.trans ht
  have HNm : Hid (∀ (w : World) (B : Nat) (aN : Option Addr) (nN cN : Nat) (aT : Option Addr) (nT cT : Nat), RecOwn w B r aN nN cN aT nT cT → ∃ b, aN = some ⟨b, 0, none⟩ ∧ (B ≤ b ∧ b < w.heap.size) ∧ nN = 4 ∧ 4 ≤ cN ∧ cN ≤ maxLen ∧ w.cell? ⟨b, 0, none⟩ = some (.int .i64 x0) ∧ w.cell? ⟨b, 1, none⟩ = some (.int .i64 x1) ∧ w.cell? ⟨b, 2, none⟩ = some (.int .i64 x2) ∧ w.cell? ⟨b, 3, none⟩ = some (.int .i64 x3)) := Lib.hid fun w B aN nN cN aT nT cT h => rec_nums2 hs h
  clear hd hk ht hs
  have HTx : Hid (∀ w2 kB z, RCell w2 kB rB a b z (there d a b) → w2.cell? ⟨kB, 5, none⟩ = some (.string (there d a b).text) ∧ kB < w2.heap.size) := Lib.hid fun w2 kB z h => ⟨h.p5, h.lt⟩
  clear h hdead hab hW htx
  generalize (there d a b).text = s at *
  generalize there d a b = C0 at *
  go_enter Tryz.func8, Tryz.ntmps8
  go_upto_region 8 with (first
    | (go_at_call 30; with_reducible refine HO.out.mono ?_; rintro e w2 ⟨kB, z, rfl, hc1, hz, hc2, hb2⟩
       have HT := Lib.hid (HN.out w2 kB z hc1 hz hc2 hb2)
       have HB2 := Lib.hid (hb2.alloc hb2.size (.cells #[.pointer (some ⟨kB, 0, none⟩), .int .i64 0, .int .i64 (-1), .int .i64 3, .int .i64 0, .int .i64 W, .int .i64 W] 54))
       have HL2 := Lib.hid hb2.size
       have hcg := Lib.hid hc1
       obtain ⟨p5', hlt5⟩ := HTx.out _ _ _ hc2
       have p5 := (((Below.refl w2.heap.size w2).alloc (Nat.le_refl _) (.cells #[.pointer (some ⟨kB, 0, none⟩), .int .i64 0, .int .i64 (-1), .int .i64 3, .int .i64 0, .int .i64 W, .int .i64 W] 54)).cell (p := ⟨kB, 5, none⟩) hlt5).trans p5'
       have kc := Ml.conv_str (w2.alloc (.cells #[.pointer (some ⟨kB, 0, none⟩), .int .i64 0, .int .i64 (-1), .int .i64 3, .int .i64 0, .int .i64 W, .int .i64 W] 54)) s
       have HDc := Lib.hid (HD.out (w2.alloc (.cells #[.pointer (some ⟨kB, 0, none⟩), .int .i64 0, .int .i64 (-1), .int .i64 3, .int .i64 0, .int .i64 W, .int .i64 W] 54)))
       rw [show (w2.alloc (.cells #[.pointer (some ⟨kB, 0, none⟩), .int .i64 0, .int .i64 (-1), .int .i64 3, .int .i64 0, .int .i64 W, .int .i64 W] 54)).heap.size = w2.heap.size + 1 by simp] at HDc
       clear hc1 hc2 hb2 hz p5' hlt5)
    | (go_at_call 31; with_reducible refine HDc.out.mono ?_; rintro e1 w4 ⟨aN, nN, cN, aT, nT, cT, rfl, hr, hb⟩
       have HB4 : Hid (Below w.heap.size w w4) := Lib.hid (HB2.out.trans (hb.mono (by have := HB2.out.size; simp at this; omega)))
       have HT4 := Lib.hid (HT.out.below (by simpa using hb))
       obtain rfl := HLen.out _ _ _ _ _ _ _ _ hr
       obtain ⟨bN, rfl, hbN, rfl, hcap1, hcap2, n0, n1, n2, n3⟩ := HNm.out _ _ _ _ _ _ _ _ hr
       have HK := (Below.refl w4.heap.size w4).alloc (Nat.le_refl _) (.cells #[.int .i64 40, .slice (some ⟨bN, 0, none⟩) 4 cN, .slice aT 0 cT] 80)
       have k0 := (HK.cell (p := ⟨bN, 0, none⟩) hbN.2).trans n0
       have k1 := (HK.cell (p := ⟨bN, 1, none⟩) hbN.2).trans n1
       have k2 := (HK.cell (p := ⟨bN, 2, none⟩) hbN.2).trans n2
       have k3 := (HK.cell (p := ⟨bN, 3, none⟩) hbN.2).trans n3
       have HbN := Lib.hid hbN.1
       simp only [maxLen] at hcap2
       clear hb hr HK n0 n1 n2 n3 hbN))
  have HT5 := Lib.hid (HT4.out.below ((Below.refl _ _).alloc (Nat.le_refl _) (.cells #[.int .i64 40, .slice (some ⟨bN, 0, none⟩) 4 cN, .slice aT 0 cT] 80)))
  have HB5 := Lib.hid (HB4.out.alloc HB4.out.size (.cells #[.int .i64 40, .slice (some ⟨bN, 0, none⟩) 4 cN, .slice aT 0 cT] 80))
  have hne : w2.heap.size ≠ bN := by have := HbN.out; first | omega | (simp at this; omega)
  have hne' : bN ≠ w2.heap.size := fun e => hne e.symm
  have q1 := HT5.out.q1
  have q2 := HT5.out.q2
  have q3 := HT5.out.q3
  have q4 := HT5.out.q4
  simp only [Fx.zero] at q1 q2 q3 q4
  have f1 := HT5.out.fz 1
  have f2 := HT5.out.fz 2
  have f3 := HT5.out.fz 3
  have f4 := HT5.out.fz 4
  go_upto_region 13 with fail
  generalize w4.alloc (.cells #[.int .i64 40, .slice (some ⟨bN, 0, none⟩) 4 cN, .slice aT 0 cT] 80) = w5 at *
  generalize hvB : w2.heap.size = vB at *
  go_wp2
  go_ret2
  exact ⟨vB, kB, rfl, HL2.out, hcg.out, HT5.out.setX ⟨x0, x1, x2, x3⟩, (((HB5.out.setCell (p := ⟨_, 1, none⟩) HL2.out _).setCell (p := ⟨_, 2, none⟩) HL2.out _).setCell (p := ⟨_, 3, none⟩) HL2.out _).setCell (p := ⟨_, 4, none⟩) HL2.out _⟩


theorem ropen_any (w : World) (h : RefAt w rB LB n d) (hdead : d.dead = false) {a b : Nat} (hab : a ≠ b ∧ a < n ∧ b < n) {W : Int} (hW : 1 ≤ W ∧ W ≤ 1099511627776) :
    Calls Tryz.prog 8 #[.pointer (some ⟨rB, 0, none⟩), .int .i64 (a : Int), .int .i64 (b : Int), .int .i64 W] w fun e w' => ∃ vB kB, e = .returned (.tuple #[.pointer (some ⟨vB, 0, none⟩), .int .i64 0]) ∧ w.heap.size ≤ vB ∧ w.heap.size ≤ kB ∧
      RW w' rB LB n d vB kB a b (there d a b) W W ∧ Below w.heap.size w w' := by
  unfold RW
  cases hd : C.M.dec (there d a b).text.data.toList with
  | none => rw [fx_none hd]; exact ropen_a w h hdead hab hW hd
  | some r =>
    by_cases h1 : r.kind = 40
    · by_cases h3 : r.nums.length = 4
      · by_cases h2 : r.texts.length = 0
        · match hn : r.nums, h3 with
          | [x0, x1, x2, x3], _ =>
            by_cases ho : (Fx.mk x0 x1 x2 x3).Ok
            · have e : fx (there d a b).text = ⟨x0, x1, x2, x3⟩ := by rw [fx_good hd ⟨h1, by rw [hn]; rfl, h2, by rw [hn]; exact ho⟩, hn]; rfl
              rw [e]
              clear e
              obtain ⟨⟨o1, o2⟩, ⟨o3, o4⟩, ⟨o5, o6⟩, ⟨o7, o8⟩⟩ := ho
              simp only [big] at o1 o2 o3 o4 o5 o6 o7 o8
              exact ropen_f w h hdead hab hW hd h1 h2 hn (by omega) (by omega) (by omega) (by omega) (by omega) (by omega) (by omega) (by omega)
            · rw [fx_bad hd fun hr => ho (by have := hr.2.2.2; rw [hn] at this; exact this)]
              by_cases g0 : x0 < 0
              · exact ropen_e0 w h hdead hab hW hd h1 h2 hn g0
              by_cases g1 : 4611686018427387904 < x0
              · exact ropen_e1 w h hdead hab hW hd h1 h2 hn g0 g1
              by_cases g2 : x1 < -1
              · exact ropen_e2 w h hdead hab hW hd h1 h2 hn g0 g1 g2
              by_cases g3 : 1 < x1
              · exact ropen_e3 w h hdead hab hW hd h1 h2 hn g0 g1 g2 g3
              by_cases g4 : x2 < 1
              · exact ropen_e4 w h hdead hab hW hd h1 h2 hn g0 g1 g2 g3 g4
              by_cases g5 : 3 < x2
              · exact ropen_e5 w h hdead hab hW hd h1 h2 hn g0 g1 g2 g3 g4 g5
              by_cases g6 : x3 < 0
              · exact ropen_e6 w h hdead hab hW hd h1 h2 hn g0 g1 g2 g3 g4 g5 g6
              by_cases g7 : 4611686018427387904 < x3
              · exact ropen_e7 w h hdead hab hW hd h1 h2 hn g0 g1 g2 g3 g4 g5 g6 g7
              exact absurd (show (Fx.mk x0 x1 x2 x3).Ok from ⟨⟨show (0 : Int) ≤ x0 by omega, show x0 ≤ big by simp only [big]; omega⟩, ⟨show -1 ≤ x1 by omega, show x1 ≤ 1 by omega⟩, ⟨show 1 ≤ x2 by omega, show x2 ≤ 3 by omega⟩, ⟨show (0 : Int) ≤ x3 by omega, show x3 ≤ big by simp only [big]; omega⟩⟩) ho
        · rw [fx_bad hd fun hr => h2 hr.2.2.1]; exact ropen_d w h hdead hab hW hd h1 h3 h2
      · rw [fx_bad hd fun hr => h3 hr.2.1]; exact ropen_c w h hdead hab hW hd h1 h3
    · rw [fx_bad hd fun hr => h1 hr.1]; exact ropen_b w h hdead hab hW hd h1

end Go.Proofs.YtpoolpckabpnfaaGreat.Wt
namespace Go.Proofs.YtpoolpckabpnfaaGreat
open Go.ChangeShapes Go.WideShapes Go.ChangeAt Go.RowKit Go.Joins Go.Deep
set_option linter.unusedVariables false
set_option linter.unusedSimpArgs false
set_option maxRecDepth 20000

theorem own : ownKnob Tryz.prog.godebug = none := by kernel_rfl
theorem laidOut : laidOutB Tryz.prog = true := by kernel_rfl

theorem addr_add {b off : Nat} (k : Nat) : (⟨b, off, none⟩ : Addr).add k = ⟨b, off + k, none⟩ := by by_cases g : k = 0 <;> simp [Addr.add, g]

theorem row_in {w : World} {a : Addr} {len cap : Nat} {f : Nat → Value} {m : Nat} (hl : len ≤ cap) (hm : cap ≤ maxLen) (hlm : len ≤ m) (hc : ∀ i, i < m → w.cell? (a.add i) = some (f i)) :
    Row w (some a) len cap ((List.range len).map f) := by
  refine ⟨by simp, hl, hm, ?_⟩
  by_cases h0 : len = 0
  · subst h0; exact .inl rfl
  · obtain ⟨b, off, spot⟩ := a
    have hc0 := hc 0 (by omega)
    have hspot : spot = none := by simpa [Addr.add] using World.cell?_spot hc0
    subst hspot
    refine .inr ⟨b, off, rfl, by simpa [Addr.add] using World.block_lt_of_cell? w _ hc0, fun i hi => ?_⟩
    have := hc i (by omega)
    rw [addr_add] at this
    rw [this]
    simp [hi]

theorem wf_i64 {x : Int} (h : (Lit.int .i64 x).wf = true) : -9223372036854775808 ≤ x ∧ x ≤ 9223372036854775807 := wf_int h

section
variable {H : Type} {enc : TypeId × Value → H} {W : World}

theorem open_strs {v : Value} {d : DataW H} {p : List MemPlace} (h : DataW.Trod enc Tryz.prog W 0 (fun _ => true) true 78 v d p) (hv : ∃ a n c, v = .slice a n c) :
    ∃ a n cap ts, v = .slice a n cap ∧ Row W a n cap (C.strs ts) := by
  obtain ⟨a, n, c, rfl⟩ := hv
  obtain ⟨fuel, hf⟩ := h
  rcases open_strings Tryz.underlying78 Tryz.underlying9 (by kernel_rfl) hf with ⟨hcs, _⟩ | ⟨a, l, c, ss, hcs, _, hl, hm, hz, _, hcell, hwz⟩
  · injection hcs with hcs
    exact ⟨none, 0, 0, [], hcs, row_nil W⟩
  · injection hcs with hcs
    have hz' : ss.length = c := by simpa using hz
    have e : C.strs (ss.take l) = (List.range l).map fun i => .string (ss.getD i ByteArray.empty) := by
      apply List.ext_getElem?
      intro i
      unfold C.strs
      rw [List.getElem?_map, List.getElem?_take, List.getElem?_map]
      by_cases hi : i < l
      · rw [if_pos hi, List.getElem?_range hi]
        simp [List.getD_eq_getElem?_getD, show i < ss.length by omega]
      · rw [if_neg hi, List.getElem?_eq_none (by simp; omega)]
        rfl
    refine ⟨some a, l, c, ss.take l, hcs, ?_⟩
    rw [e]
    exact row_in hl hm (by omega) hcell

theorem open_crash {v : Value} {d : DataW H} {p : List MemPlace} (h : DataW.Trod enc Tryz.prog W 0 (fun _ => true) true 38 v d p) (hv : ∃ a n c, v = .slice a n c) :
    ∃ a n cap l, v = .slice a n cap ∧ KRow W a n cap l := by
  obtain ⟨a, n, c, rfl⟩ := hv
  obtain ⟨fuel, hf⟩ := h
  rcases open_slice_pairs Tryz.underlying38 Tryz.underlying98 (by kernel_rfl) rfl rfl (by kernel_rfl) (by kernel_rfl) hf with ⟨hcs, _⟩ | ⟨a, l, c, m, n, V0, V1, D0, D1, P0, P1, hcs, _, hl, hm, hmm, _, hi⟩
  · injection hcs with hcs
    exact ⟨none, 0, 0, [], hcs, krow_nil W⟩
  · injection hcs with hcs
    simp only [if_true] at hmm
    have each : ∀ i, i < l → ∃ q : Int × Int, W.cell? (a.add (i * 2)) = some (.int .i64 q.1) ∧ W.cell? (a.add (i * 2 + 1)) = some (.int .i64 q.2) := by
      intro i hil
      obtain ⟨h1, h2, h3, h4⟩ := hi i (by omega)
      obtain ⟨n0, e0, _, _⟩ := DataW.trod_int Tryz.underlying3 h3
      obtain ⟨n1, e1, _, _⟩ := DataW.trod_int Tryz.underlying3 h4
      injection e0 with e0
      injection e1 with e1
      exact ⟨(n0, n1), by rw [h1, e0], by rw [h2, e1]⟩
    obtain ⟨q, hq⟩ := choose_lt each
    refine ⟨some a, l, c, (List.range l).map q, hcs, by simp, hl, hm, ?_⟩
    by_cases h0 : l = 0
    · subst h0; exact .inl rfl
    · obtain ⟨b, off, spot⟩ := a
      have hc0 := (hq 0 (by omega)).1
      have hspot : spot = none := by simpa [Addr.add] using World.cell?_spot hc0
      subst hspot
      refine .inr ⟨b, off, rfl, by simpa [Addr.add] using World.block_lt_of_cell? W _ hc0, fun i x hx => ?_⟩
      have hil : i < l := by have := (List.getElem?_eq_some_iff.1 hx).1; simpa using this
      have hxq : x = q i := by simp [hil] at hx; exact hx.symm
      subst hxq
      have := hq i hil
      rw [addr_add, addr_add, ← Nat.add_assoc] at this
      exact this
end

/-- a string of a row that came in, read later -/
theorem strs_at {w w' : World} {a : Option Addr} {n c : Nat} {l : List ByteArray} (h : Row w a n c (C.strs l)) (hb : Below w.heap.size w w') {k : Nat} (hk : k < n) :
    ∃ b off t, a = some ⟨b, off, none⟩ ∧ l[k]? = some t ∧ w'.cell? ⟨b, off + k, none⟩ = some (.string t) ∧ b < w.heap.size := by
  obtain ⟨b, off, t, ha, hlt, ht, hc⟩ := C.row_str (c_row h) k hk
  exact ⟨b, off, t, ha, ht, by rw [hb.cell (p := ⟨b, off + k, none⟩) hlt]; exact hc, hlt⟩

theorem bits_at {w w' : World} {a : Option Addr} {n c : Nat} {l : List Bool} (h : Row w a n c (l.map Value.bool)) (hb : Below w.heap.size w w') {k : Nat} (hk : k < n) :
    ∃ b off x, a = some ⟨b, off, none⟩ ∧ w'.cell? ⟨b, off + k, none⟩ = some (.bool x) := by
  obtain ⟨h1, h2, h3, h4⟩ := h
  rw [List.length_map] at h1
  rcases h4 with h4 | ⟨b, off, ha, hlt, hc⟩
  · have := congrArg List.length h4; rw [List.length_map, List.length_nil] at this; omega
  · refine ⟨b, off, l[k]'(by omega), ha, ?_⟩
    rw [hb.cell (p := ⟨b, off + k, none⟩) hlt, hc k hk]
    simp [List.getElem?_eq_getElem (show k < l.length by omega)]
end Go.Proofs.YtpoolpckabpnfaaGreat
namespace Go.Proofs.YtpoolpckabpnfaaGreat
open Go.ChangeShapes Go.WideShapes Go.ChangeAt Go.RowKit Go.Joins Go.Deep
set_option linter.unusedVariables false
set_option linter.unusedSimpArgs false
set_option maxRecDepth 20000
namespace Wt
open Ml (Mg msgV)

/-- an act, with where its parts lie -/
structure Ac where
  kind : Int
  n : Int
  fr : Int
  m : Mg
  s : ByteArray
  aL : Option Addr
  nL : Nat
  cL : Nat
  l : List (Int × Int)
instance : Inhabited Ac := ⟨⟨0, 0, 0, default, ⟨#[]⟩, none, 0, 0, []⟩⟩
def Ac.cells (x : Ac) : List Value := [.int .i64 x.kind, .int .i64 x.n, .int .i64 x.fr, .int .i64 x.m.kind, .int .i64 x.m.epoch, .int .i64 x.m.seq, .int .i64 x.m.n, .int .i64 x.m.block, .int .i64 x.m.client, .int .i64 x.m.e, .int .i64 x.m.t0, .int .i64 x.m.t1, .int .i64 x.m.t2, .int .i64 x.m.t3, .string x.m.data, .string x.m.row, .string x.s, .slice x.aL x.nL x.cL]
def actV (x : Ac) : Value := .agg #[.int .i64 x.kind, .int .i64 x.n, .int .i64 x.fr, .int .i64 x.m.kind, .int .i64 x.m.epoch, .int .i64 x.m.seq, .int .i64 x.m.n, .int .i64 x.m.block, .int .i64 x.m.client, .int .i64 x.m.e, .int .i64 x.m.t0, .int .i64 x.m.t1, .int .i64 x.m.t2, .int .i64 x.m.t3, .string x.m.data, .string x.m.row, .string x.s, .slice x.aL x.nL x.cL]
def Ac.Ok (w : World) (x : Ac) : Prop := KRow w x.aL x.nL x.cL x.l ∧ (-9223372036854775808 ≤ x.n ∧ x.n ≤ 9223372036854775807) ∧ x.s.size ≤ maxLen

/-- acts that came in -/
def Acts (w : World) (a : Option Addr) (n c : Nat) (l : List Ac) : Prop :=
  l.length = n ∧ n ≤ c ∧ c ≤ maxLen ∧ (∀ x ∈ l, x.Ok w) ∧ (l = [] ∨ ∃ b off, a = some ⟨b, off, none⟩ ∧ b < w.heap.size ∧ ∀ k x, l[k]? = some x → ∀ i v, x.cells[i]? = some v → w.cell? ⟨b, off + (k * 18 + i), none⟩ = some v)
section
variable {H : Type} {enc : TypeId × Value → H} {W : World}

theorem msg_cells {fuel : Nat} {c0 c1 c2 c3 c4 c5 c6 c7 c8 c9 c10 c11 c12 : Value} {x : DataW H × List MemPlace} (h : DataW.trod enc Tryz.prog W 0 (fun _ => true) true fuel 37 [c0, c1, c2, c3, c4, c5, c6, c7, c8, c9, c10, c11, c12] = some x) :
    ∃ m : Mg, [c0, c1, c2, c3, c4, c5, c6, c7, c8, c9, c10, c11, c12] = m.cells.toList := by
  have k3 : Tryz.prog.cellsOf 3 = 1 := by kernel_rfl
  have k2 : Tryz.prog.cellsOf 2 = 1 := by kernel_rfl
  have ke : Tryz.prog.cellsOf 29 = 1 := by kernel_rfl
  have ka : Tryz.prog.cellsOf 35 = 4 := by kernel_rfl
  have k9 : Tryz.prog.cellsOf 9 = 1 := by kernel_rfl
  obtain ⟨xs, k, _, _, _, hxl, hf⟩ := DataW.trod_struct Tryz.underlying37 h
  have g0 := hf 0 _ rfl
  have g1 := hf 1 _ rfl
  have g2 := hf 2 _ rfl
  have g3 := hf 3 _ rfl
  have g4 := hf 4 _ rfl
  have g5 := hf 5 _ rfl
  have g6 := hf 6 _ rfl
  have g7 := hf 7 _ rfl
  have g8 := hf 8 _ rfl
  have g9 := hf 9 _ rfl
  match xs, hxl with
  | [y0, y1, y2, y3, y4, y5, y6, y7, y8, y9], _ =>
    simp [k3] at g0 g4 g5
    simp [k2] at g1 g2 g3
    simp [ke] at g6
    simp [ka] at g7
    simp [k9] at g8 g9
    obtain ⟨zs, k', _, _, _, hzl, hz⟩ := DataW.trod_array Tryz.underlying35 g7
    have a0 := hz 0 (by omega)
    have a1 := hz 1 (by omega)
    have a2 := hz 2 (by omega)
    have a3 := hz 3 (by omega)
    match zs, hzl with
    | [z0, z1, z2, z3], _ =>
      simp [k2] at a0 a1 a2 a3
      obtain ⟨n0, e_n0, _, _⟩ := DataW.trod_int Tryz.underlying3 g0
      injection e_n0 with e_n0
      obtain ⟨n1, e_n1, _, _⟩ := DataW.trod_int Tryz.underlying2 g1
      injection e_n1 with e_n1
      obtain ⟨n2, e_n2, _, _⟩ := DataW.trod_int Tryz.underlying2 g2
      injection e_n2 with e_n2
      obtain ⟨n3, e_n3, _, _⟩ := DataW.trod_int Tryz.underlying2 g3
      injection e_n3 with e_n3
      obtain ⟨n4, e_n4, _, _⟩ := DataW.trod_int Tryz.underlying3 g4
      injection e_n4 with e_n4
      obtain ⟨n5, e_n5, _, _⟩ := DataW.trod_int Tryz.underlying3 g5
      injection e_n5 with e_n5
      obtain ⟨n6, e_n6, _, _⟩ := DataW.trod_int Tryz.underlying29 g6
      injection e_n6 with e_n6
      obtain ⟨t0, e_t0, _, _⟩ := DataW.trod_int Tryz.underlying2 a0
      injection e_t0 with e_t0
      obtain ⟨t1, e_t1, _, _⟩ := DataW.trod_int Tryz.underlying2 a1
      injection e_t1 with e_t1
      obtain ⟨t2, e_t2, _, _⟩ := DataW.trod_int Tryz.underlying2 a2
      injection e_t2 with e_t2
      obtain ⟨t3, e_t3, _, _⟩ := DataW.trod_int Tryz.underlying2 a3
      injection e_t3 with e_t3
      obtain ⟨s0, e_s0, _, _⟩ := DataW.trod_string Tryz.underlying9 g8
      injection e_s0 with e_s0
      obtain ⟨s1, e_s1, _, _⟩ := DataW.trod_string Tryz.underlying9 g9
      injection e_s1 with e_s1
      subst e_n0 e_n1 e_n2 e_n3 e_n4 e_n5 e_n6 e_t0 e_t1 e_t2 e_t3 e_s0 e_s1
      exact ⟨⟨n0, n1, n2, n3, n4, n5, n6, t0, t1, t2, t3, s0, s1⟩, rfl⟩

theorem open_keepsC {fuel : Nat} {v : Value} {x : DataW H × List MemPlace} (h : DataW.trod enc Tryz.prog W 0 (fun _ => true) true fuel 38 [v] = some x) :
    ∃ a n cap l, v = .slice a n cap ∧ KRow W a n cap l := by
  rcases open_slice_pairs Tryz.underlying38 Tryz.underlying98 (by kernel_rfl) rfl rfl (by kernel_rfl) (by kernel_rfl) h with ⟨hcs, _⟩ | ⟨a, l, c, m, n, V0, V1, D0, D1, P0, P1, hcs, _, hl, hm, hmm, _, hi⟩
  · injection hcs with hcs
    exact ⟨none, 0, 0, [], hcs, krow_nil W⟩
  · injection hcs with hcs
    simp only [if_true] at hmm
    have each : ∀ i, i < l → ∃ q : Int × Int, W.cell? (a.add (i * 2)) = some (.int .i64 q.1) ∧ W.cell? (a.add (i * 2 + 1)) = some (.int .i64 q.2) := by
      intro i hil
      obtain ⟨h1, h2, h3, h4⟩ := hi i (by omega)
      obtain ⟨n0, e0, _, _⟩ := DataW.trod_int Tryz.underlying3 h3
      obtain ⟨n1, e1, _, _⟩ := DataW.trod_int Tryz.underlying3 h4
      injection e0 with e0
      injection e1 with e1
      exact ⟨(n0, n1), by rw [h1, e0], by rw [h2, e1]⟩
    obtain ⟨q, hq⟩ := choose_lt each
    refine ⟨some a, l, c, (List.range l).map q, hcs, by simp, hl, hm, ?_⟩
    by_cases h0 : l = 0
    · subst h0; exact .inl rfl
    · obtain ⟨b, off, spot⟩ := a
      have hc0 := (hq 0 (by omega)).1
      have hspot : spot = none := by simpa [Addr.add] using World.cell?_spot hc0
      subst hspot
      refine .inr ⟨b, off, rfl, by simpa [Addr.add] using World.block_lt_of_cell? W _ hc0, fun i x hx => ?_⟩
      have hil : i < l := by have := (List.getElem?_eq_some_iff.1 hx).1; simpa using this
      have hxq : x = q i := by simp [hil] at hx; exact hx.symm
      subst hxq
      have := hq i hil
      rw [addr_add, addr_add, ← Nat.add_assoc] at this
      exact this

theorem open_acts {v : Value} {d : DataW H} {p : List MemPlace} (h : DataW.Trod enc Tryz.prog W 0 (fun _ => true) true 22 v d p) (hv : ∃ a n c, v = .slice a n c) :
    ∃ a n cap l, v = .slice a n cap ∧ Acts W a n cap l := by
  obtain ⟨a, n, c, rfl⟩ := hv
  obtain ⟨fuel, hf⟩ := h
  have c41 : Tryz.prog.cellsOf 40 = 18 := by kernel_rfl
  have k3 : Tryz.prog.cellsOf 3 = 1 := by kernel_rfl
  have k9 : Tryz.prog.cellsOf 9 = 1 := by kernel_rfl
  have km : Tryz.prog.cellsOf 37 = 13 := by kernel_rfl
  have kl : Tryz.prog.cellsOf 38 = 1 := by kernel_rfl
  rcases open_slice Tryz.underlying22 hf with ⟨hcs, _⟩ | ⟨a, l, c, m, n, D, Pl, hcs, _, hl, hm, hmm, _, hi⟩
  · injection hcs with hcs
    exact ⟨none, 0, 0, [], hcs, rfl, Nat.le_refl _, by simp [maxLen], by simp, .inl rfl⟩
  · injection hcs with hcs
    simp only [if_true] at hmm
    have each : ∀ i, i < l → ∃ q : Ac, q.Ok W ∧ ∀ j v, q.cells[j]? = some v → W.cell? (a.add (i * 18 + j)) = some v := by
      intro i hil
      obtain ⟨cs', h1, h2⟩ := hi i (by omega)
      rw [c41] at h1
      obtain ⟨_, hlen, hcell⟩ := World.cells?_some h1
      obtain ⟨xs, k, _, _, _, hxl, hf⟩ := DataW.trod_struct Tryz.underlying40 h2
      match cs', hlen with
      | [v0, v1, v2, v3, v4, v5, v6, v7, v8, v9, v10, v11, v12, v13, v14, v15, v16, v17], _ =>
        have g0 := hf 0 _ rfl
        have g1 := hf 1 _ rfl
        have g2 := hf 2 _ rfl
        have g3 := hf 3 _ rfl
        have g4 := hf 4 _ rfl
        have g5 := hf 5 _ rfl
        match xs, hxl with
        | [y0, y1, y2, y3, y4, y5], _ =>
          simp [k3] at g0 g1 g2
          simp [km] at g3
          simp [k9] at g4
          simp [kl] at g5
          obtain ⟨n0, e0, _, w0⟩ := DataW.trod_int Tryz.underlying3 g0
          obtain ⟨n1, e1, _, w1⟩ := DataW.trod_int Tryz.underlying3 g1
          obtain ⟨n2, e2', _, w2⟩ := DataW.trod_int Tryz.underlying3 g2
          obtain ⟨m, e2⟩ := msg_cells g3
          obtain ⟨zs, e3, _, w3⟩ := DataW.trod_string Tryz.underlying9 g4
          obtain ⟨aL, nL, cL, ks, e4, hL⟩ := open_keepsC g5
          injection e0 with e0
          injection e1 with e1
          injection e2' with e2'
          injection e3 with e3
          simp [Mg.cells] at e2
          obtain ⟨rfl, rfl, rfl, rfl, rfl, rfl, rfl, rfl, rfl, rfl, rfl, rfl, rfl⟩ := e2
          subst e0 e1 e2' e3 e4
          refine ⟨⟨n0, n1, n2, m, zs, aL, nL, cL, ks⟩, ⟨hL, wf_i64 w1, by simpa [Lit.wf] using w3⟩, fun j v hj => ?_⟩
          have hjl : j < 18 := by have := (List.getElem?_eq_some_iff.1 hj).1; simpa [Ac.cells] using this
          have := hcell j (by omega)
          rw [add_add] at this
          rw [this]
          exact hj
    obtain ⟨q, hq⟩ := choose_lt each
    refine ⟨some a, l, c, (List.range l).map q, hcs, by simp, hl, hm, ?_, ?_⟩
    · intro x hx
      obtain ⟨i, hi', rfl⟩ := List.mem_map.1 hx
      exact (hq i (List.mem_range.1 hi')).1
    · by_cases h0 : l = 0
      · subst h0; exact .inl rfl
      · obtain ⟨b, off, spot⟩ := a
        have hc0 := (hq 0 (by omega)).2 0 _ rfl
        have hspot : spot = none := by simpa [Addr.add] using World.cell?_spot hc0
        subst hspot
        refine .inr ⟨b, off, rfl, by simpa [Addr.add] using World.block_lt_of_cell? W _ hc0, fun i x hx j v hv => ?_⟩
        have hil : i < l := by have := (List.getElem?_eq_some_iff.1 hx).1; simpa using this
        have hxq : x = q i := by simp [hil] at hx; exact hx.symm
        subst hxq
        have := (hq i hil).2 j v hv
        rw [addr_add] at this
        exact this
end
end Wt
end Go.Proofs.YtpoolpckabpnfaaGreat
namespace Go.Proofs.YtpoolpckabpnfaaGreat.Wt
open Go.RowKit Go.Maps
open Ml (Mg may msgV)
set_option linter.unusedVariables false
set_option linter.unusedSimpArgs false
set_option maxRecDepth 20000

def Lrg (x : Ac) : Prop := 1000 < x.s.size ∨ 600 < x.nL ∨ 1000 < x.m.data.size ∨ 1000 < x.m.row.size
instance (x : Ac) : Decidable (Lrg x) := by unfold Lrg; infer_instance
set_option maxHeartbeats 4000000 in
theorem large_any (w : World) (x : Ac) : Calls Tryz.prog 9 #[actV x] w fun r w' => r = .returned (.bool (decide (Lrg x))) ∧ Below w.heap.size w w' := by
  obtain ⟨kind, n, fr, ⟨mk, mep, msq, mn, mb, mc, me, m0, m1, m2, m3, data, row⟩, s, aL, nL, cL, l⟩ := x
  have HB := Lib.hid ((Below.refl w.heap.size w).alloc (Nat.le_refl _) (.cells #[.int .i64 kind, .int .i64 n, .int .i64 fr, .int .i64 mk, .int .i64 mep, .int .i64 msq, .int .i64 mn, .int .i64 mb, .int .i64 mc, .int .i64 me, .int .i64 m0, .int .i64 m1, .int .i64 m2, .int .i64 m3, .string data, .string row, .string s, .slice aL nL cL] 40))
  unfold actV
  simp only
  by_cases h1 : 1000 < s.size
  · have e1 : decide (Lrg ⟨kind, n, fr, ⟨mk, mep, msq, mn, mb, mc, me, m0, m1, m2, m3, data, row⟩, s, aL, nL, cL, l⟩) = true := decide_eq_true (by unfold Lrg; simp only; omega)
    rw [e1]
    have i1 : (1000 : Int) < (s.size : Int) := by omega
    clear e1
    go_enter Tryz.func9, Tryz.ntmps9
    go_wp2_with fail
    go_ret
    exact ⟨rfl, HB.out⟩
  have i1 : ¬ (1000 : Int) < (s.size : Int) := by omega
  by_cases h2 : 600 < nL
  · have e1 : decide (Lrg ⟨kind, n, fr, ⟨mk, mep, msq, mn, mb, mc, me, m0, m1, m2, m3, data, row⟩, s, aL, nL, cL, l⟩) = true := decide_eq_true (by unfold Lrg; simp only; omega)
    rw [e1]
    have i2 : (600 : Int) < (nL : Int) := by omega
    clear e1
    go_enter Tryz.func9, Tryz.ntmps9
    go_wp2_with fail
    go_ret
    exact ⟨rfl, HB.out⟩
  have i2 : ¬ (600 : Int) < (nL : Int) := by omega
  by_cases h3 : 1000 < data.size
  · have e1 : decide (Lrg ⟨kind, n, fr, ⟨mk, mep, msq, mn, mb, mc, me, m0, m1, m2, m3, data, row⟩, s, aL, nL, cL, l⟩) = true := decide_eq_true (by unfold Lrg; simp only; omega)
    rw [e1]
    have i3 : (1000 : Int) < (data.size : Int) := by omega
    clear e1
    go_enter Tryz.func9, Tryz.ntmps9
    go_wp2_with fail
    go_ret
    exact ⟨rfl, HB.out⟩
  have i3 : ¬ (1000 : Int) < (data.size : Int) := by omega
  by_cases h4 : 1000 < row.size
  · have e1 : decide (Lrg ⟨kind, n, fr, ⟨mk, mep, msq, mn, mb, mc, me, m0, m1, m2, m3, data, row⟩, s, aL, nL, cL, l⟩) = true := decide_eq_true (by unfold Lrg; simp only; omega)
    rw [e1]
    have i4 : (1000 : Int) < (row.size : Int) := by omega
    clear e1
    go_enter Tryz.func9, Tryz.ntmps9
    go_wp2_with fail
    go_ret
    exact ⟨rfl, HB.out⟩
  have i4 : ¬ (1000 : Int) < (row.size : Int) := by omega
  have e1 : decide (Lrg ⟨kind, n, fr, ⟨mk, mep, msq, mn, mb, mc, me, m0, m1, m2, m3, data, row⟩, s, aL, nL, cL, l⟩) = false := decide_eq_false (by unfold Lrg; simp only; omega)
  rw [e1]
  clear e1
  go_enter Tryz.func9, Tryz.ntmps9
  go_wp2_with fail
  go_ret
  exact ⟨rfl, HB.out⟩

/-! ## what a crash keeps, in a row of the call's own -/
def kls : List (Int × Int) → List Value
  | [] => []
  | x :: xs => .int .i64 x.1 :: .int .i64 x.2 :: kls xs
theorem kls_length : ∀ l : List (Int × Int), (kls l).length = l.length * 2
  | [] => rfl
  | x :: xs => by simp [kls, kls_length xs]; omega
theorem kls_get : ∀ {l : List (Int × Int)} {j : Nat} {v : Value}, (kls l)[j]? = some v → ∃ i x, l[i]? = some x ∧ ((j = i * 2 ∧ v = .int .i64 x.1) ∨ (j = i * 2 + 1 ∧ v = .int .i64 x.2))
  | [], j, v, h => by simp [kls] at h
  | x :: xs, 0, v, h => by simp [kls] at h; exact ⟨0, x, rfl, .inl ⟨rfl, h.symm⟩⟩
  | x :: xs, 1, v, h => by simp [kls] at h; exact ⟨0, x, rfl, .inr ⟨rfl, h.symm⟩⟩
  | x :: xs, j + 2, v, h => by
    obtain ⟨i, y, h1, h2⟩ := kls_get (l := xs) (j := j) (v := v) (by simpa [kls] using h)
    refine ⟨i + 1, y, by simpa using h1, ?_⟩
    rcases h2 with ⟨h2, h3⟩ | ⟨h2, h3⟩
    · exact .inl ⟨by omega, h3⟩
    · exact .inr ⟨by omega, h3⟩
theorem kls_at : ∀ {l : List (Int × Int)} {i : Nat} {x : Int × Int}, l[i]? = some x → (kls l)[i * 2]? = some (.int .i64 x.1) ∧ (kls l)[i * 2 + 1]? = some (.int .i64 x.2)
  | [], i, x, h => by simp at h
  | y :: ys, 0, x, h => by simp at h; subst h; exact ⟨rfl, rfl⟩
  | y :: ys, i + 1, x, h => by
    have := kls_at (l := ys) (i := i) (x := x) (by simpa using h)
    rw [show (i + 1) * 2 = i * 2 + 2 by omega, show i * 2 + 2 + 1 = (i * 2 + 1) + 2 by omega]
    simpa [kls] using this

structure KOwn (base : Nat) (w : World) (g n c : Nat) (l : List (Int × Int)) : Prop where
  bs : base ≤ g
  lt : g < w.heap.size
  ln : l.length = n
  le : n ≤ c
  mx : c ≤ maxLen
  cl : ∀ i x, l[i]? = some x → w.cell? ⟨g, i * 2, none⟩ = some (.int .i64 x.1) ∧ w.cell? ⟨g, i * 2 + 1, none⟩ = some (.int .i64 x.2)
  fz : ∀ o, w.frozen? ⟨g, o, none⟩ = false
theorem KOwn.row {base : Nat} {w : World} {g n c : Nat} {l : List (Int × Int)} (h : KOwn base w g n c l) : KRow w (some ⟨g, 0, none⟩) n c l :=
  ⟨h.ln, h.le, h.mx, .inr ⟨g, 0, rfl, h.lt, fun i x hx => by rw [Nat.zero_add]; exact h.cl i x hx⟩⟩
theorem KOwn.set {base : Nat} {w : World} {g n c : Nat} {l : List (Int × Int)} (h : KOwn base w g n c l) {i : Nat} {x : Int × Int} (hx : l[i]? = some x) (v : Int) : KOwn base (w.setCell ⟨g, i * 2, none⟩ (.int .i64 v)) g n c (l.set i (v, x.2)) := by
  have hi : i < l.length := (List.getElem?_eq_some_iff.1 hx).1
  refine ⟨h.bs, by simpa [World.setCell] using h.lt, by simpa using h.ln, h.le, h.mx, fun j y hy => ?_, fun o => by rw [World.frozen?_setCell]; exact h.fz o⟩
  by_cases e : j = i
  · subst e
    rw [List.getElem?_set_self hi] at hy
    injection hy with hy
    subst hy
    exact ⟨World.cell?_setCell_same _ _ _ (h.cl j x hx).1, by rw [World.cell?_setCell_other _ _ _ _ (by simp)]; exact (h.cl j x hx).2⟩
  · rw [List.getElem?_set_ne (by omega)] at hy
    exact ⟨by rw [World.cell?_setCell_other _ _ _ _ (by intro z; injection z with _ z; omega)]; exact (h.cl j y hy).1, by rw [World.cell?_setCell_other _ _ _ _ (by intro z; injection z with _ z; omega)]; exact (h.cl j y hy).2⟩

theorem keep_info : (Tryz.prog.info? 98).map (fun i => (i.zero, i.size, i.bytes)) = some (some (.agg #[.int .i64 0, .int .i64 0]), 2, 16) := by kernel_rfl
theorem run_append_keeps (w : World) (ty : TypeId) {base g0 : Nat} (hb : base ≤ g0) (hg : w.heap[g0]? = some (.cells #[] 98 (0, 0))) (aL : Option Addr) (nL cL : Nat) (ks : List (Int × Int)) (h : KRow w aL nL cL ks) (hn : nL ≤ 600) :
    ∃ g' c' w', (Builtin.append_ #[38, 38] ty #[.slice (some ⟨g0, 0, none⟩) 0 0, .slice aL nL cL]).run Tryz.prog w = .ok (.slice (some ⟨g', 0, none⟩) nL c') w' ∧ KOwn base w' g' nL c' ks ∧ But [] w w' := by
  obtain ⟨i0, hi0, hz0, hz1, hz2⟩ := info_parts keep_info
  have hlt := (Array.getElem?_eq_some_iff.1 hg).1
  obtain ⟨h1, h2, h3, h4⟩ := h
  have hfz : ∀ o, w.frozen? ⟨g0, o, none⟩ = false := fun o => by simp [World.frozen?, hg]
  by_cases h0 : nL = 0
  · subst h0
    have hks : ks = [] := List.eq_nil_of_length_eq_zero h1
    subst hks
    refine ⟨g0, 0, w, ?_, ⟨hb, hlt, rfl, Nat.le_refl _, by simp [maxLen], fun i x hx => by simp at hx, hfz⟩, But.refl _ _⟩
    cases aL with
    | none => simp [Builtin.append_, run_underlying Tryz.underlying38, sizeOf, typeInfo, hi0, Builtin.lenOf, Builtin.firstCells, storeCells]
    | some a => simp [Builtin.append_, run_underlying Tryz.underlying38, sizeOf, typeInfo, hi0, Builtin.lenOf, Builtin.firstCells, loadCells, loadCellsFrom, storeCells]
  · rcases h4 with h4 | ⟨b, off, rfl, hbl, hc⟩
    · subst h4; simp at h1; omega
    · have hnew : ∀ j v, (kls ks)[j]? = some v → w.cell? ((⟨b, off, none⟩ : Addr).add j) = some v := fun j v hj => by
        rw [Addr.add_lit]
        obtain ⟨i, x, e1, e2⟩ := kls_get hj
        rcases e2 with ⟨rfl, rfl⟩ | ⟨rfl, rfl⟩
        · exact (hc i x e1).1
        · rw [← Nat.add_assoc]; exact (hc i x e1).2
      have hr2 := run_append_grow (P := Tryz.prog) w (ty := ty) 38 98 i0 _ Tryz.underlying38 hi0 hz0 ⟨g0, 0, none⟩ 0 0 [] (by simp) (by simp) ⟨b, off, none⟩ nL cL (kls ks) (by rw [kls_length, hz1, h1]) hnew (by omega) (by omega) (by rw [hz2]; exact growslice_fits (by omega) (by omega))
      obtain ⟨cs, hr3, hcs⟩ : ∃ cs : Array Value, (Builtin.append_ #[38, 38] ty #[.slice (some ⟨g0, 0, none⟩) 0 0, .slice (some ⟨b, off, none⟩) nL cL]).run Tryz.prog w = .ok (.slice (some ⟨w.heap.size, 0, none⟩) nL (grownCap w nL 0 98)) (w.drew.alloc (.cells cs 98)) ∧ (∀ j v, (kls ks)[j]? = some v → cs[j]? = some v) := by
        rw [Nat.zero_add] at hr2
        refine ⟨_, hr2, fun j v hj => ?_⟩
        have hjl : j < (kls ks).length := (List.getElem?_eq_some_iff.1 hj).1
        rw [Array.getElem?_append_left (by rw [Array.size_append, List.size_toArray, List.size_toArray]; simp only [List.length_nil]; omega), Array.getElem?_append_right (by simp)]
        simpa using hj
      clear hr2
      have hge := grownCap_ge w nL 0 98
      have hle := grownCap_le_maxLen w nL 0 98 (by simp only [maxLen]; omega)
      generalize grownCap w nL 0 98 = gc at *
      have hh : (w.drew.alloc (.cells cs 98)).heap[w.heap.size]? = some (.cells cs 98 (0, 0)) := heap_alloc_new w.drew _
      refine ⟨w.heap.size, gc, _, hr3, ⟨by omega, by simp, h1, hge, hle, fun i x hx => ?_, fun o => ?_⟩, ⟨rfl, rfl, rfl, by simp, fun k hk _ => heap_alloc_old w.drew _ hk⟩⟩
      · have hk := kls_at hx
        have key : ∀ j v, (kls ks)[j]? = some v → (w.drew.alloc (.cells cs 98)).cell? ⟨w.heap.size, j, none⟩ = some v := fun j v hj => by
          simp only [World.cell?, hh]
          simpa using hcs j v hj
        exact ⟨key _ _ hk.1, key _ _ hk.2⟩
      · unfold World.frozen?
        simp only [hh]
        simp

theorem wpList_append_keeps (w : World) {ops : Array Oper} {rest : List Oper} {o : Oper} {act : Act} {Q : Exit → Act → World → Prop} (hgd : o.guard = none) (s x : Operand)
    (ho : o.op = .call { callee := .builtin .append, args := #[s, x], argTypes := #[38, 38] })
    {base g0 : Nat} (hs : act.eval s = .slice (some ⟨g0, 0, none⟩) 0 0) (hb : base ≤ g0) (hg : w.heap[g0]? = some (.cells #[] 98 (0, 0))) (aL : Option Addr) (nL cL : Nat) (ks : List (Int × Int)) (hx : act.eval x = .slice aL nL cL) (hk : KRow w aL nL cL ks) (hn : nL ≤ 600)
    (h : ∀ g' c' w', KOwn base w' g' nL c' ks → But [] w w' → wpList Tryz.prog ops Q rest (act.put o.dst (.slice (some ⟨g', 0, none⟩) nL c')) w') : wpList Tryz.prog ops Q (o :: rest) act w := by
  refine wpList_plain hgd fun K hK => ?_
  obtain ⟨g', c', w', hrun, h5, h6⟩ := run_append_keeps w o.type hb hg aL nL cL ks hk hn
  unfold Oper.wp execOp
  simp only [ho, resolve, invoke, builtin, Sem.run_bind, Sem.run_pure, Result.andThen_ok, List.map_toArray, List.map_cons, List.map_nil, hs, hx, hrun]
  exact hK _ _ (h g' c' w' h5 h6)
theorem and1 (x : Int) : ∃ m : Int, (m = 0 ∨ m = 1) ∧ bits .and .i64 x 1 = m := by
  have h1 : bits .and .i64 x 1 = IntKind.i64.wrap (((BitVec.ofInt 64 x) &&& (BitVec.ofInt 64 1)).toNat : Int) := rfl
  have h2 : ((BitVec.ofInt 64 x) &&& (BitVec.ofInt 64 1)).toNat = (BitVec.ofInt 64 x).toNat % 2 := by
    rw [BitVec.toNat_and]
    have : (BitVec.ofInt 64 1).toNat = 2 ^ 1 - 1 := by decide
    rw [this, Nat.and_two_pow_sub_one_eq_mod]
  refine ⟨_, ?_, rfl⟩
  rw [h1, h2]
  have h3 : (BitVec.ofInt 64 x).toNat % 2 < 2 := Nat.mod_lt _ (by decide)
  generalize (BitVec.ofInt 64 x).toNat % 2 = m at *
  have : m = 0 ∨ m = 1 := by omega
  rcases this with rfl | rfl
  · left; rfl
  · right; rfl

/-- an act in a row that came in -/
theorem acts_at {w w' : World} {a : Option Addr} {n c : Nat} {l : List Ac} (h : Acts w a n c l) (hb : Below w.heap.size w w') {k : Nat} (hk : k < n) :
    ∃ b off x, a = some ⟨b, off, none⟩ ∧ l[k]? = some x ∧ x.Ok w' ∧ b < w.heap.size ∧ ∀ i v, x.cells[i]? = some v → w'.cell? ⟨b, off + (k * 18 + i), none⟩ = some v := by
  obtain ⟨h1, h2, h3, h4, h5⟩ := h
  have hkl : k < l.length := by omega
  obtain ⟨x, hx⟩ : ∃ x, l[k]? = some x := ⟨_, List.getElem?_eq_getElem hkl⟩
  have hm : x ∈ l := List.mem_of_getElem? hx
  rcases h5 with rfl | ⟨b, off, rfl, hbl, hc⟩
  · simp at hm
  · refine ⟨b, off, x, rfl, hx, ⟨krow_but (h4 x hm).1 (But.of_below hb) (.inr (by simp)), (h4 x hm).2⟩, hbl, fun i v hv => ?_⟩
    rw [hb.cell (p := ⟨b, off + (k * 18 + i), none⟩) hbl]
    exact hc k x hx i v hv
theorem act18 {w : World} {b off k : Nat} {x : Ac} (h : ∀ i v, x.cells[i]? = some v → w.cell? ⟨b, off + (k * 18 + i), none⟩ = some v) :
    w.cell? ⟨b, off + k * 18, none⟩ = some (.int .i64 x.kind) ∧ w.cell? ⟨b, off + k * 18 + 1, none⟩ = some (.int .i64 x.n) ∧ w.cell? ⟨b, off + k * 18 + 2, none⟩ = some (.int .i64 x.fr) ∧ w.cell? ⟨b, off + k * 18 + 3, none⟩ = some (.int .i64 x.m.kind) ∧ w.cell? ⟨b, off + k * 18 + 4, none⟩ = some (.int .i64 x.m.epoch) ∧ w.cell? ⟨b, off + k * 18 + 5, none⟩ = some (.int .i64 x.m.seq) ∧ w.cell? ⟨b, off + k * 18 + 6, none⟩ = some (.int .i64 x.m.n) ∧ w.cell? ⟨b, off + k * 18 + 7, none⟩ = some (.int .i64 x.m.block) ∧ w.cell? ⟨b, off + k * 18 + 8, none⟩ = some (.int .i64 x.m.client) ∧ w.cell? ⟨b, off + k * 18 + 9, none⟩ = some (.int .i64 x.m.e) ∧ w.cell? ⟨b, off + k * 18 + 10, none⟩ = some (.int .i64 x.m.t0) ∧ w.cell? ⟨b, off + k * 18 + 11, none⟩ = some (.int .i64 x.m.t1) ∧ w.cell? ⟨b, off + k * 18 + 12, none⟩ = some (.int .i64 x.m.t2) ∧ w.cell? ⟨b, off + k * 18 + 13, none⟩ = some (.int .i64 x.m.t3) ∧ w.cell? ⟨b, off + k * 18 + 14, none⟩ = some (.string x.m.data) ∧ w.cell? ⟨b, off + k * 18 + 15, none⟩ = some (.string x.m.row) ∧ w.cell? ⟨b, off + k * 18 + 16, none⟩ = some (.string x.s) ∧ w.cell? ⟨b, off + k * 18 + 17, none⟩ = some (.slice x.aL x.nL x.cL) :=
  ⟨h 0 _ rfl, h 1 _ rfl, h 2 _ rfl, h 3 _ rfl, h 4 _ rfl, h 5 _ rfl, h 6 _ rfl, h 7 _ rfl, h 8 _ rfl, h 9 _ rfl, h 10 _ rfl, h 11 _ rfl, h 12 _ rfl, h 13 _ rfl, h 14 _ rfl, h 15 _ rfl, h 16 _ rfl, h 17 _ rfl⟩
theorem Ac.Ok.below {w w' : World} {x : Ac} (h : x.Ok w) (hb : Below w.heap.size w w') : x.Ok w' := ⟨krow_but h.1 (But.of_below hb) (.inr (by simp)), h.2⟩

def az : Ac := ⟨0, 0, 0, ⟨0, 0, 0, 0, 0, 0, 0, 0, 0, 0, 0, ⟨#[]⟩, ⟨#[]⟩⟩, ⟨#[]⟩, none, 0, 0, []⟩
theorem act_info : (Tryz.prog.info? 40).map (fun i => (i.zero, i.size)) = some (some (.agg #[.int .i64 0, .int .i64 0, .int .i64 0, .int .i64 0, .int .i64 0, .int .i64 0, .int .i64 0, .int .i64 0, .int .i64 0, .int .i64 0, .int .i64 0, .int .i64 0, .int .i64 0, .int .i64 0, .string ⟨#[]⟩, .string ⟨#[]⟩, .string ⟨#[]⟩, .slice none 0 0]), 18) := by kernel_rfl
theorem act_size : (Tryz.prog.info? 40).map (·.size) = some 18 := by kernel_rfl
theorem Ac.len (x : Ac) : x.cells.length = 18 := rfl
theorem actV_cells (x : Ac) : actV x = .agg x.cells.toArray := rfl
theorem Ac.one (x : Ac) : ∀ v ∈ x.cells, v.oneCell' = true := by
  intro v hv
  simp only [Ac.cells, List.mem_cons, List.not_mem_nil, or_false] at hv
  rcases hv with rfl | rfl | rfl | rfl | rfl | rfl | rfl | rfl | rfl | rfl | rfl | rfl | rfl | rfl | rfl | rfl | rfl | rfl <;> rfl
/-- an act in a box -/
def XA (w : World) (G : Nat) (x : Ac) : Prop := w.heap[G]? = some (.cells x.cells.toArray 40)
theorem XA.lt {w : World} {G : Nat} {x : Ac} (h : XA w G x) : G < w.heap.size := (Array.getElem?_eq_some_iff.1 h).1
theorem XA.cell {w : World} {G : Nat} {x : Ac} (h : XA w G x) (i : Nat) : w.cell? ⟨G, i, none⟩ = x.cells[i]? := by unfold XA at h; simp [World.cell?, h]
theorem XA.below {w w' : World} {G : Nat} {x : Ac} (h : XA w G x) {B : Nat} (hb : Below B w w') (hB : G < B) : XA w' G x := by unfold XA; rw [hb.block _ hB]; exact h
theorem XA.but {w w' : World} {G : Nat} {x : Ac} (h : XA w G x) {l : List Nat} (hb : But l w w') (hn : G ∉ l) : XA w' G x := by unfold XA; rw [hb.block _ h.lt hn]; exact h
theorem XA.there {w : World} {G : Nat} {x : Ac} (h : XA w G x) : w.there G 0 18 := fun j hj => by
  rw [Nat.zero_add]
  refine ⟨?_, ?_⟩
  · rw [h.cell]
    have : j < x.cells.length := by rw [x.len]; exact hj
    rw [List.getElem?_eq_getElem this]; rfl
  · unfold XA at h
    simp [World.frozen?, h]
theorem objA_setCells {b : Nat} {e : TypeId} {fr : Nat × Nat} : ∀ (vs : List Value) (o : Nat) (w : World) (cur : Array Value), w.heap[b]? = some (.cells cur e fr) → o + vs.length ≤ cur.size →
    ∃ cur', (w.setCells b o vs).heap[b]? = some (.cells cur' e fr) ∧ cur'.size = cur.size ∧ cur'.toList = cur.toList.take o ++ vs ++ cur.toList.drop (o + vs.length)
  | [], o, w, cur, h, hs => ⟨cur, h, rfl, by simp⟩
  | v :: r, o, w, cur, h, hs => by
    have h1 : (w.setCell ⟨b, o, none⟩ v).heap[b]? = some (.cells (cur.setIfInBounds o v) e fr) := by
      simp only [World.setCell, Array.getElem?_modify, if_pos]
      simp [h]
    simp only [List.length_cons] at hs
    obtain ⟨cur', g1, g2, g3⟩ := objA_setCells r (o + 1) _ _ h1 (by simp; omega)
    refine ⟨cur', by rw [World.setCells]; exact g1, by rw [g2]; simp, ?_⟩
    rw [g3, Array.toList_setIfInBounds]
    have hlt : o < cur.toList.length := by simp; omega
    have ht : (cur.toList.set o v).take (o + 1) = cur.toList.take o ++ [v] := by
      rw [List.take_set, List.take_succ_eq_append_getElem hlt, List.set_append_right _ _ (by simp; omega)]
      have h0 : o - min o cur.size = 0 := by simp at hlt; omega
      simp [h0]
    rw [ht, List.drop_set_of_lt (by omega)]
    simp [Nat.add_assoc, Nat.add_comm 1]
theorem belowA_setCells {B b : Nat} (hB : B ≤ b) : ∀ (vs : List Value) (o : Nat) {w0 w : World}, Below B w0 w → Below B w0 (w.setCells b o vs)
  | [], o, w0, w, h => h
  | v :: r, o, w0, w, h => by rw [World.setCells]; exact belowA_setCells hB r _ (h.setCell hB v)
theorem XA.new (w : World) (x : Ac) : XA (w.alloc (.cells x.cells.toArray 40)) w.heap.size x := heap_alloc_new w _
theorem XA.store {w : World} {G : Nat} {y : Ac} (h : XA w G y) (x : Ac) : XA (w.setCells G 0 x.cells) G x := by
  obtain ⟨cur', h1, h2, h3⟩ := objA_setCells x.cells 0 w _ h (by rw [x.len]; simp [y.len])
  have e : cur' = x.cells.toArray := by
    apply Array.ext'
    rw [h3]
    simp [x.len, y.len]
  rw [e] at h1
  exact h1
section
variable {ops : Array Oper} {rest : List Oper} {o : Oper} {a : Act} {w : World} {Q : Exit → Act → World → Prop}
theorem newVarA (w : World) (x : Ac) : (newVar 40 (actV x)).run Tryz.prog w = .ok ⟨w.heap.size, 0, none⟩ (w.alloc (.cells x.cells.toArray 40)) := by
  rw [actV_cells]
  simp only [newVar, newRow, Value.cells, Sem.run_bind, run_newObj_alloc, Sem.run_pure, Result.andThen_ok]
theorem zeroA (w : World) : (zeroValue 40).run Tryz.prog w = .ok (actV az) w := by
  have h := act_info
  cases hq : Tryz.prog.info? 40 with
  | none => rw [hq] at h; simp at h
  | some i =>
    rw [hq] at h
    simp at h
    simp [zeroValue, typeInfo, hq, h.1]
    rfl
theorem wpList_allocA (hg : o.guard = none) (ho : o.op = .alloc 40)
    (h : ∀ w', w' = w.alloc (.cells az.cells.toArray 40) → wpList Tryz.prog ops Q rest (a.put o.dst (.pointer (some ⟨w.heap.size, 0, none⟩))) w') : wpList Tryz.prog ops Q (o :: rest) a w := by
  refine wpList_plain hg fun K hK => ?_
  unfold Oper.wp
  simp only [execOp, ho, Instr.alloc, Sem.run_bind, zeroA, Result.andThen_ok, newVarA, Sem.run_pure, Result.andThen]
  exact hK _ _ (h _ rfl)
theorem wpList_loadA (hg : o.guard = none) (x : Operand) (ho : o.op = .load 40 x) (b off : Nat) (hx : a.eval x = .pointer (some ⟨b, off, none⟩)) (y : Ac) (hc : w.rangeAt b off y.cells)
    (h : wpList Tryz.prog ops Q rest (a.put o.dst (actV y)) w) : wpList Tryz.prog ops Q (o :: rest) a w :=
  wpList_load_mid hg 40 x ho b off hx y.cells _ hc Tryz.underlying40 rfl (by rw [act_size, y.len]) h
theorem wpList_storeA (hg : o.guard = none) (x y : Operand) (ho : o.op = .store 40 x y) (b : Nat) (hx : a.eval x = .pointer (some ⟨b, 0, none⟩)) (z : Ac) (hy : a.eval y = actV z) (ht : w.there b 0 18)
    (h : ∀ w', w' = w.setCells b 0 z.cells → wpList Tryz.prog ops Q rest (a.put o.dst undef) w') : wpList Tryz.prog ops Q (o :: rest) a w := by
  have h1 : z.cells.toArray.size = 18 := rfl
  exact wpList_store_mid hg 40 x y ho b 0 z.cells.toArray hx (hy.trans (actV_cells z)) ht (by rw [act_size]; rfl) (all_oneCell_toArray z.one) (h _ rfl)
end
theorem XA.range {w : World} {G : Nat} {x : Ac} (h : XA w G x) : w.rangeAt G 0 x.cells := fun j v hv => by rw [Nat.zero_add, h.cell]; exact hv
end Go.Proofs.YtpoolpckabpnfaaGreat.Wt
