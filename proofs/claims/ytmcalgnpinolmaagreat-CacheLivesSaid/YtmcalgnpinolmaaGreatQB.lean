/-
  A record's payload, read back.
  A record's payload, read back: read.
-/
import Derived.Test.YtmcalgnpinolmaaGreatQA
import Derived.Test.YtmcalgnpinolmaaGreatCDecs
import Derived.Test.YtmcalgnpinolmaaGreatLog4
import Derived.Deep.DeepCutAuto
namespace Go.Proofs.YtmcalgnpinolmaaGreat
open Go.RowKit Go.Maps
set_option linter.unusedVariables false
set_option linter.unusedSimpArgs false
set_option maxRecDepth 20000
namespace Q
variable {qB lB N nb mE : Nat} {k : Kp}

set_option maxHeartbeats 2000000 in
theorem deed_lay_true (w : World) (q : CacheC w qB lB N nb mE k) (b ep sq : Int) (data : ByteArray) (cl n : Int) (hm : MayE nb ⟨b, ep, sq, data, true, cl, n⟩) (g c h c2 : Nat) (hg : g < w.heap.size) (hh : h < w.heap.size) (hc : 6 ≤ c) (hs : w.cell? ⟨g, 0, none⟩ = some (.int .i64 b) ∧ w.cell? ⟨g, 1, none⟩ = some (.int .i64 ep) ∧ w.cell? ⟨g, 2, none⟩ = some (.int .i64 sq) ∧ w.cell? ⟨g, 3, none⟩ = some (.int .i64 1) ∧ w.cell? ⟨g, 4, none⟩ = some (.int .i64 cl) ∧ w.cell? ⟨g, 5, none⟩ = some (.int .i64 n) ∧ w.cell? ⟨h, 0, none⟩ = some (.string data)) :
    Calls Tryz.prog 64 #[.pointer (some ⟨qB, 0, none⟩), .int .i64 10, .slice (some ⟨g, 0, none⟩) 6 c, .slice (some ⟨h, 0, none⟩) 1 c2] w fun e w' => e = .returned (.tuple #[.iface 117 (.agg #[.int .i64 b, .int .i64 ep, .int .i64 sq, .string data, .bool true, .int .i64 cl, .int .i64 n]), .bool true]) ∧ Below w.heap.size w w' := by
  have HS : Hid (∀ w', Below w.heap.size w w' → w'.cell? ⟨g, 0, none⟩ = some (.int .i64 b) ∧ w'.cell? ⟨g, 1, none⟩ = some (.int .i64 ep) ∧ w'.cell? ⟨g, 2, none⟩ = some (.int .i64 sq) ∧ w'.cell? ⟨g, 3, none⟩ = some (.int .i64 1) ∧ w'.cell? ⟨g, 4, none⟩ = some (.int .i64 cl) ∧ w'.cell? ⟨g, 5, none⟩ = some (.int .i64 n) ∧ w'.cell? ⟨h, 0, none⟩ = some (.string data)) := Lib.hid (fun w' hb => by
    obtain ⟨a0, a1, a2, a3, a4, a5, a6⟩ := hs
    exact ⟨by rw [hb.cell (p := ⟨g, 0, none⟩) hg]; exact a0, by rw [hb.cell (p := ⟨g, 1, none⟩) hg]; exact a1, by rw [hb.cell (p := ⟨g, 2, none⟩) hg]; exact a2, by rw [hb.cell (p := ⟨g, 3, none⟩) hg]; exact a3, by rw [hb.cell (p := ⟨g, 4, none⟩) hg]; exact a4, by rw [hb.cell (p := ⟨g, 5, none⟩) hg]; exact a5, by rw [hb.cell (p := ⟨h, 0, none⟩) hh]; exact a6⟩)
  have hbZ := ((Below.refl w.heap.size w).alloc (Nat.le_refl _) (.cells #[.int .i64 0, .int .i64 0, .int .i64 0, .string ⟨#[]⟩, .bool false, .int .i64 0, .int .i64 0] 37)).drew
  have hbX := ((Below.refl w.heap.size w).alloc (Nat.le_refl _) (.cells #[.int .i64 b, .int .i64 ep, .int .i64 sq, .string data, .bool true, .int .i64 cl, .int .i64 n] 37)).drew
  have HS0 := Lib.hid (HS.out w.drew ((Below.refl _ _).drew))
  have HS1 := Lib.hid (HS.out _ hbZ)
  have HS2 := Lib.hid (HS.out _ hbX)
  have HX := Lib.hid hbX
  have HT : Hid (∀ w', Below (w.heap.size + 1) (w.alloc (.cells #[.int .i64 b, .int .i64 ep, .int .i64 sq, .string data, .bool true, .int .i64 cl, .int .i64 n] 37)) w' → w'.cell? ⟨w.heap.size, 0, none⟩ = some (.int .i64 b) ∧ w'.cell? ⟨w.heap.size, 1, none⟩ = some (.int .i64 ep) ∧ w'.cell? ⟨w.heap.size, 2, none⟩ = some (.int .i64 sq) ∧ w'.cell? ⟨w.heap.size, 3, none⟩ = some (.string data) ∧ w'.cell? ⟨w.heap.size, 4, none⟩ = some (.bool true) ∧ w'.cell? ⟨w.heap.size, 5, none⟩ = some (.int .i64 cl) ∧ w'.cell? ⟨w.heap.size, 6, none⟩ = some (.int .i64 n) ∧ w'.cell? ⟨g, 3, none⟩ = some (.int .i64 1)) := Lib.hid (fun w' hb => by
    have e : ∀ o, w'.cell? ⟨w.heap.size, o, none⟩ = (w.alloc (.cells #[.int .i64 b, .int .i64 ep, .int .i64 sq, .string data, .bool true, .int .i64 cl, .int .i64 n] 37)).cell? ⟨w.heap.size, o, none⟩ := fun o => hb.cell (p := ⟨w.heap.size, o, none⟩) (by simp)
    have hb2 : Below w.heap.size w w' := ((Below.refl w.heap.size w).alloc (Nat.le_refl _) _).trans (hb.mono (by omega))
    refine ⟨?_, ?_, ?_, ?_, ?_, ?_, ?_, (HS.out w' hb2).2.2.2.1⟩ <;> (rw [e, World.cell?_alloc_mark]; rfl))
  have HFl : Hid (∀ w', Calls Tryz.prog 93 #[.bool true] w' fun e w'' => e = .returned (.int .i64 1) ∧ w' = w'') := Lib.hid (fun w' => flag_q w' true)
  have HCh : Hid (∀ w', Below w.heap.size w w' → Calls Tryz.prog 48 #[.pointer (some ⟨qB, 0, none⟩), .agg #[.int .i64 b, .int .i64 ep, .int .i64 sq, .string data, .bool true, .int .i64 cl, .int .i64 n]] w' fun e w'' => e = .returned (.int .i64 0) ∧ Below w'.heap.size w' w'') := Lib.hid (fun w' hb => by
    have := check_q w' (q.below hb q.lt) ⟨b, ep, sq, data, true, cl, n⟩
    rwa [may_check hm] at this)
  have hcI : (6 : Int) ≤ (c : Int) := by omega
  clear q hm hs hbZ hbX hg hh
  go_enter Tryz.func64, Tryz.ntmps64
  go_wp2_with fail
  go_cut [10] (fun p wx => p = .pointer (some ⟨w.heap.size, 0, none⟩) ∧ Below (w.heap.size + 1) (w.alloc (.cells #[.int .i64 b, .int .i64 ep, .int .i64 sq, .string data, .bool true, .int .i64 cl, .int .i64 n] 37)) wx)
  case first =>
    go_region_held3 (fun w' => w'.cell? ⟨g, 0, none⟩ = some (.int .i64 b) ∧ w'.cell? ⟨g, 1, none⟩ = some (.int .i64 ep) ∧ w'.cell? ⟨g, 2, none⟩ = some (.int .i64 sq) ∧ w'.cell? ⟨g, 3, none⟩ = some (.int .i64 1) ∧ w'.cell? ⟨g, 4, none⟩ = some (.int .i64 cl) ∧ w'.cell? ⟨g, 5, none⟩ = some (.int .i64 n) ∧ w'.cell? ⟨h, 0, none⟩ = some (.string data))
      (first
        | exact HS0.out
        | exact HS1.out
        | exact HS2.out)
      (first | fail)
    all_goals
      go_wp2_with fail
      go_meet
      exact ⟨rfl, (Below.refl _ _).drew⟩
  case rest =>
    obtain ⟨rfl, hbc⟩ := hcut
    have HC := Lib.hid hbc
    have HCw : Hid (Below w.heap.size w wc) := Lib.hid (((Below.refl w.heap.size w).alloc (Nat.le_refl _) _).trans (hbc.mono (by omega)))
    have HT0 := Lib.hid (HT.out wc.drew hbc.drew)
    clear hbc HS0 HS1 HS2
    go_wp2_with fail
    go_region_held3 (fun w' => w'.cell? ⟨w.heap.size, 0, none⟩ = some (.int .i64 b) ∧ w'.cell? ⟨w.heap.size, 1, none⟩ = some (.int .i64 ep) ∧ w'.cell? ⟨w.heap.size, 2, none⟩ = some (.int .i64 sq) ∧ w'.cell? ⟨w.heap.size, 3, none⟩ = some (.string data) ∧ w'.cell? ⟨w.heap.size, 4, none⟩ = some (.bool true) ∧ w'.cell? ⟨w.heap.size, 5, none⟩ = some (.int .i64 cl) ∧ w'.cell? ⟨w.heap.size, 6, none⟩ = some (.int .i64 n) ∧ w'.cell? ⟨g, 3, none⟩ = some (.int .i64 1))
      (first
        | exact HT0.out
        | exact HT1.out)
      (first
        | (go_at_call 93; with_reducible refine (HFl.out _).mono ?_; rintro e w' ⟨rfl, rfl⟩)
        | (go_at_call 48; with_reducible refine (HCh.out _ HCw.out.drew).mono ?_; rintro e w2 ⟨rfl, hb2⟩
           have HB2 : Hid (Below w.heap.size w w2) := Lib.hid (HCw.out.drew.trans (hb2.mono HCw.out.drew.size))
           have HT1 := Lib.hid (HT.out w2 (HC.out.drew.trans (hb2.mono (by have := HC.out.size; simp at this; exact this))))
           clear hb2))
    all_goals
      go_wp2_with fail
      go_ret2
      exact ⟨rfl, HB2.out⟩

set_option maxHeartbeats 2000000 in
theorem deed_lay_false (w : World) (q : CacheC w qB lB N nb mE k) (b ep sq : Int) (data : ByteArray) (cl n : Int) (hm : MayE nb ⟨b, ep, sq, data, false, cl, n⟩) (g c h c2 : Nat) (hg : g < w.heap.size) (hh : h < w.heap.size) (hc : 6 ≤ c) (hs : w.cell? ⟨g, 0, none⟩ = some (.int .i64 b) ∧ w.cell? ⟨g, 1, none⟩ = some (.int .i64 ep) ∧ w.cell? ⟨g, 2, none⟩ = some (.int .i64 sq) ∧ w.cell? ⟨g, 3, none⟩ = some (.int .i64 0) ∧ w.cell? ⟨g, 4, none⟩ = some (.int .i64 cl) ∧ w.cell? ⟨g, 5, none⟩ = some (.int .i64 n) ∧ w.cell? ⟨h, 0, none⟩ = some (.string data)) :
    Calls Tryz.prog 64 #[.pointer (some ⟨qB, 0, none⟩), .int .i64 10, .slice (some ⟨g, 0, none⟩) 6 c, .slice (some ⟨h, 0, none⟩) 1 c2] w fun e w' => e = .returned (.tuple #[.iface 117 (.agg #[.int .i64 b, .int .i64 ep, .int .i64 sq, .string data, .bool false, .int .i64 cl, .int .i64 n]), .bool true]) ∧ Below w.heap.size w w' := by
  have HS : Hid (∀ w', Below w.heap.size w w' → w'.cell? ⟨g, 0, none⟩ = some (.int .i64 b) ∧ w'.cell? ⟨g, 1, none⟩ = some (.int .i64 ep) ∧ w'.cell? ⟨g, 2, none⟩ = some (.int .i64 sq) ∧ w'.cell? ⟨g, 3, none⟩ = some (.int .i64 0) ∧ w'.cell? ⟨g, 4, none⟩ = some (.int .i64 cl) ∧ w'.cell? ⟨g, 5, none⟩ = some (.int .i64 n) ∧ w'.cell? ⟨h, 0, none⟩ = some (.string data)) := Lib.hid (fun w' hb => by
    obtain ⟨a0, a1, a2, a3, a4, a5, a6⟩ := hs
    exact ⟨by rw [hb.cell (p := ⟨g, 0, none⟩) hg]; exact a0, by rw [hb.cell (p := ⟨g, 1, none⟩) hg]; exact a1, by rw [hb.cell (p := ⟨g, 2, none⟩) hg]; exact a2, by rw [hb.cell (p := ⟨g, 3, none⟩) hg]; exact a3, by rw [hb.cell (p := ⟨g, 4, none⟩) hg]; exact a4, by rw [hb.cell (p := ⟨g, 5, none⟩) hg]; exact a5, by rw [hb.cell (p := ⟨h, 0, none⟩) hh]; exact a6⟩)
  have hbZ := ((Below.refl w.heap.size w).alloc (Nat.le_refl _) (.cells #[.int .i64 0, .int .i64 0, .int .i64 0, .string ⟨#[]⟩, .bool false, .int .i64 0, .int .i64 0] 37)).drew
  have hbX := ((Below.refl w.heap.size w).alloc (Nat.le_refl _) (.cells #[.int .i64 b, .int .i64 ep, .int .i64 sq, .string data, .bool false, .int .i64 cl, .int .i64 n] 37)).drew
  have HS0 := Lib.hid (HS.out w.drew ((Below.refl _ _).drew))
  have HS1 := Lib.hid (HS.out _ hbZ)
  have HS2 := Lib.hid (HS.out _ hbX)
  have HX := Lib.hid hbX
  have HT : Hid (∀ w', Below (w.heap.size + 1) (w.alloc (.cells #[.int .i64 b, .int .i64 ep, .int .i64 sq, .string data, .bool false, .int .i64 cl, .int .i64 n] 37)) w' → w'.cell? ⟨w.heap.size, 0, none⟩ = some (.int .i64 b) ∧ w'.cell? ⟨w.heap.size, 1, none⟩ = some (.int .i64 ep) ∧ w'.cell? ⟨w.heap.size, 2, none⟩ = some (.int .i64 sq) ∧ w'.cell? ⟨w.heap.size, 3, none⟩ = some (.string data) ∧ w'.cell? ⟨w.heap.size, 4, none⟩ = some (.bool false) ∧ w'.cell? ⟨w.heap.size, 5, none⟩ = some (.int .i64 cl) ∧ w'.cell? ⟨w.heap.size, 6, none⟩ = some (.int .i64 n) ∧ w'.cell? ⟨g, 3, none⟩ = some (.int .i64 0)) := Lib.hid (fun w' hb => by
    have e : ∀ o, w'.cell? ⟨w.heap.size, o, none⟩ = (w.alloc (.cells #[.int .i64 b, .int .i64 ep, .int .i64 sq, .string data, .bool false, .int .i64 cl, .int .i64 n] 37)).cell? ⟨w.heap.size, o, none⟩ := fun o => hb.cell (p := ⟨w.heap.size, o, none⟩) (by simp)
    have hb2 : Below w.heap.size w w' := ((Below.refl w.heap.size w).alloc (Nat.le_refl _) _).trans (hb.mono (by omega))
    refine ⟨?_, ?_, ?_, ?_, ?_, ?_, ?_, (HS.out w' hb2).2.2.2.1⟩ <;> (rw [e, World.cell?_alloc_mark]; rfl))
  have HFl : Hid (∀ w', Calls Tryz.prog 93 #[.bool false] w' fun e w'' => e = .returned (.int .i64 0) ∧ w' = w'') := Lib.hid (fun w' => flag_q w' false)
  have HCh : Hid (∀ w', Below w.heap.size w w' → Calls Tryz.prog 48 #[.pointer (some ⟨qB, 0, none⟩), .agg #[.int .i64 b, .int .i64 ep, .int .i64 sq, .string data, .bool false, .int .i64 cl, .int .i64 n]] w' fun e w'' => e = .returned (.int .i64 0) ∧ Below w'.heap.size w' w'') := Lib.hid (fun w' hb => by
    have := check_q w' (q.below hb q.lt) ⟨b, ep, sq, data, false, cl, n⟩
    rwa [may_check hm] at this)
  have hcI : (6 : Int) ≤ (c : Int) := by omega
  clear q hm hs hbZ hbX hg hh
  go_enter Tryz.func64, Tryz.ntmps64
  go_wp2_with fail
  go_cut [10] (fun p wx => p = .pointer (some ⟨w.heap.size, 0, none⟩) ∧ Below (w.heap.size + 1) (w.alloc (.cells #[.int .i64 b, .int .i64 ep, .int .i64 sq, .string data, .bool false, .int .i64 cl, .int .i64 n] 37)) wx)
  case first =>
    go_region_held3 (fun w' => w'.cell? ⟨g, 0, none⟩ = some (.int .i64 b) ∧ w'.cell? ⟨g, 1, none⟩ = some (.int .i64 ep) ∧ w'.cell? ⟨g, 2, none⟩ = some (.int .i64 sq) ∧ w'.cell? ⟨g, 3, none⟩ = some (.int .i64 0) ∧ w'.cell? ⟨g, 4, none⟩ = some (.int .i64 cl) ∧ w'.cell? ⟨g, 5, none⟩ = some (.int .i64 n) ∧ w'.cell? ⟨h, 0, none⟩ = some (.string data))
      (first
        | exact HS0.out
        | exact HS1.out
        | exact HS2.out)
      (first | fail)
    all_goals
      go_wp2_with fail
      go_meet
      exact ⟨rfl, (Below.refl _ _).drew⟩
  case rest =>
    obtain ⟨rfl, hbc⟩ := hcut
    have HC := Lib.hid hbc
    have HCw : Hid (Below w.heap.size w wc) := Lib.hid (((Below.refl w.heap.size w).alloc (Nat.le_refl _) _).trans (hbc.mono (by omega)))
    have HT0 := Lib.hid (HT.out wc.drew hbc.drew)
    clear hbc HS0 HS1 HS2
    go_wp2_with fail
    go_region_held3 (fun w' => w'.cell? ⟨w.heap.size, 0, none⟩ = some (.int .i64 b) ∧ w'.cell? ⟨w.heap.size, 1, none⟩ = some (.int .i64 ep) ∧ w'.cell? ⟨w.heap.size, 2, none⟩ = some (.int .i64 sq) ∧ w'.cell? ⟨w.heap.size, 3, none⟩ = some (.string data) ∧ w'.cell? ⟨w.heap.size, 4, none⟩ = some (.bool false) ∧ w'.cell? ⟨w.heap.size, 5, none⟩ = some (.int .i64 cl) ∧ w'.cell? ⟨w.heap.size, 6, none⟩ = some (.int .i64 n) ∧ w'.cell? ⟨g, 3, none⟩ = some (.int .i64 0))
      (first
        | exact HT0.out
        | exact HT1.out)
      (first
        | (go_at_call 93; with_reducible refine (HFl.out _).mono ?_; rintro e w' ⟨rfl, rfl⟩)
        | (go_at_call 48; with_reducible refine (HCh.out _ HCw.out.drew).mono ?_; rintro e w2 ⟨rfl, hb2⟩
           have HB2 : Hid (Below w.heap.size w w2) := Lib.hid (HCw.out.drew.trans (hb2.mono HCw.out.drew.size))
           have HT1 := Lib.hid (HT.out w2 (HC.out.drew.trans (hb2.mono (by have := HC.out.size; simp at this; exact this))))
           clear hb2))
    all_goals
      go_wp2_with fail
      go_ret2
      exact ⟨rfl, HB2.out⟩

set_option maxHeartbeats 2000000 in
theorem deed_clean (w : World) (q : CacheC w qB lB N nb mE k) (b ep sq : Int) (hm : MayD nb (.clean b ep sq)) (g c c2 : Nat) (aT : Option Addr) (hg : g < w.heap.size) (hc : 3 ≤ c) (hs : w.cell? ⟨g, 0, none⟩ = some (.int .i64 b) ∧ w.cell? ⟨g, 1, none⟩ = some (.int .i64 ep) ∧ w.cell? ⟨g, 2, none⟩ = some (.int .i64 sq)) :
    Calls Tryz.prog 64 #[.pointer (some ⟨qB, 0, none⟩), .int .i64 11, .slice (some ⟨g, 0, none⟩) 3 c, .slice aT 0 c2] w fun e w' => e = .returned (.tuple #[.iface 120 (.agg #[.int .i64 b, .int .i64 ep, .int .i64 sq]), .bool true]) ∧ Below w.heap.size w w' := by
  have HS : Hid (∀ w', Below w.heap.size w w' → w'.cell? ⟨g, 0, none⟩ = some (.int .i64 b) ∧ w'.cell? ⟨g, 1, none⟩ = some (.int .i64 ep) ∧ w'.cell? ⟨g, 2, none⟩ = some (.int .i64 sq)) := Lib.hid (fun w' hb => by
    obtain ⟨a0, a1, a2⟩ := hs
    exact ⟨by rw [hb.cell (p := ⟨g, 0, none⟩) hg]; exact a0, by rw [hb.cell (p := ⟨g, 1, none⟩) hg]; exact a1, by rw [hb.cell (p := ⟨g, 2, none⟩) hg]; exact a2⟩)
  have hbZ := ((Below.refl w.heap.size w).alloc (Nat.le_refl _) (.cells #[.int .i64 0, .int .i64 0, .int .i64 0] 120)).drew
  have hbX := ((Below.refl w.heap.size w).alloc (Nat.le_refl _) (.cells #[.int .i64 b, .int .i64 ep, .int .i64 sq] 120)).drew
  have HS0 := Lib.hid (HS.out w.drew ((Below.refl _ _).drew))
  have HS1 := Lib.hid (HS.out _ hbZ)
  have HS2 := Lib.hid (HS.out _ hbX)
  have HT : Hid (∀ w', Below (w.heap.size + 1) (w.alloc (.cells #[.int .i64 b, .int .i64 ep, .int .i64 sq] 120)) w' → w'.cell? ⟨w.heap.size, 0, none⟩ = some (.int .i64 b) ∧ w'.cell? ⟨w.heap.size, 1, none⟩ = some (.int .i64 ep) ∧ w'.cell? ⟨w.heap.size, 2, none⟩ = some (.int .i64 sq)) := Lib.hid (fun w' hb => by
    have e : ∀ o, w'.cell? ⟨w.heap.size, o, none⟩ = (w.alloc (.cells #[.int .i64 b, .int .i64 ep, .int .i64 sq] 120)).cell? ⟨w.heap.size, o, none⟩ := fun o => hb.cell (p := ⟨w.heap.size, o, none⟩) (by simp)
    refine ⟨?_, ?_, ?_⟩ <;> (rw [e, World.cell?_alloc_mark]; rfl))
  have HR : Hid (∀ w', Below w.heap.size w w' → Calls Tryz.prog 68 #[.pointer (some ⟨qB, 0, none⟩), .int .i64 b] w' fun e w'' => e = .returned (.bool true) ∧ w' = w'') := Lib.hid (fun w' hb => by
    have := reaches_q w' (q.below hb q.lt) b
    rwa [decide_eq_true hm.1] at this)
  have HH : Hid (∀ w', Calls Tryz.prog 69 #[.agg #[.int .i64 ep, .int .i64 sq]] w' fun e w'' => e = .returned (.bool true) ∧ Below w'.heap.size w' w'') := Lib.hid (fun w' => by
    have := mayHave_q w' ep sq
    rwa [decide_eq_true hm.2] at this)
  have hcI : (3 : Int) ≤ (c : Int) := by omega
  clear q hm hs hbZ hbX hg
  go_enter Tryz.func64, Tryz.ntmps64
  go_wp2_with fail
  go_cut [11] (fun p wx => p = .pointer (some ⟨w.heap.size, 0, none⟩) ∧ Below (w.heap.size + 1) (w.alloc (.cells #[.int .i64 b, .int .i64 ep, .int .i64 sq] 120)) wx)
  case first =>
    go_region_held3 (fun w' => w'.cell? ⟨g, 0, none⟩ = some (.int .i64 b) ∧ w'.cell? ⟨g, 1, none⟩ = some (.int .i64 ep) ∧ w'.cell? ⟨g, 2, none⟩ = some (.int .i64 sq))
      (first
        | exact HS0.out
        | exact HS1.out
        | exact HS2.out)
      (first | fail)
    all_goals
      go_wp2_with fail
      go_meet
      exact ⟨rfl, (Below.refl _ _).drew⟩
  case rest =>
    obtain ⟨rfl, hbc⟩ := hcut
    have HC := Lib.hid hbc
    have HCw : Hid (Below w.heap.size w wc) := Lib.hid (((Below.refl w.heap.size w).alloc (Nat.le_refl _) _).trans (hbc.mono (by omega)))
    have HT0 := Lib.hid (HT.out wc.drew hbc.drew)
    clear hbc HS0 HS1 HS2
    go_wp2_with fail
    go_region_held3 (fun w' => w'.cell? ⟨w.heap.size, 0, none⟩ = some (.int .i64 b) ∧ w'.cell? ⟨w.heap.size, 1, none⟩ = some (.int .i64 ep) ∧ w'.cell? ⟨w.heap.size, 2, none⟩ = some (.int .i64 sq))
      (first
        | exact HT0.out
        | exact HT1.out)
      (first
        | (go_at_call 68; with_reducible refine (HR.out _ HCw.out.drew).mono ?_; rintro e w' ⟨rfl, rfl⟩)
        | (go_at_call 69; with_reducible refine (HH.out _).mono ?_; rintro e w2 ⟨rfl, hb2⟩
           have HB2 : Hid (Below w.heap.size w w2) := Lib.hid (HCw.out.drew.trans (hb2.mono HCw.out.drew.size))
           have HT1 := Lib.hid (HT.out w2 (HC.out.drew.trans (hb2.mono (by have := HC.out.size; simp at this; exact this))))
           clear hb2))
    all_goals
      go_wp2_with fail
      go_ret2
      exact ⟨rfl, HB2.out⟩

set_option maxHeartbeats 1000000 in
theorem deed_drop (w : World) (q : CacheC w qB lB N nb mE k) (b : Int) (hm : MayD nb (.drop b)) (g c c2 : Nat) (aT : Option Addr) (hg : g < w.heap.size) (hc : 1 ≤ c) (hs : w.cell? ⟨g, 0, none⟩ = some (.int .i64 b)) :
    Calls Tryz.prog 64 #[.pointer (some ⟨qB, 0, none⟩), .int .i64 12, .slice (some ⟨g, 0, none⟩) 1 c, .slice aT 0 c2] w fun e w' => e = .returned (.tuple #[.iface 115 (.agg #[.int .i64 b]), .bool true]) ∧ Below w.heap.size w w' := by
  have HR : Hid (∀ w', Below w.heap.size w w' → Calls Tryz.prog 68 #[.pointer (some ⟨qB, 0, none⟩), .int .i64 b] w' fun e w'' => e = .returned (.bool true) ∧ w' = w'') := Lib.hid (fun w' hb => by
    have := reaches_q w' (q.below hb q.lt) b
    rwa [decide_eq_true (show 0 ≤ b ∧ b < (nb : Int) from hm)] at this)
  have hcI : (1 : Int) ≤ (c : Int) := by omega
  have hbX := ((Below.refl w.heap.size w).alloc (Nat.le_refl _) (.cells #[.int .i64 b] 115)).drew
  have HX := Lib.hid hbX
  have HT0 : Hid ((w.alloc (.cells #[.int .i64 b] 115)).drew.cell? ⟨w.heap.size, 0, none⟩ = some (.int .i64 b)) := Lib.hid (by
    show (w.alloc _).cell? _ = _
    rw [World.cell?_alloc_mark]; rfl)
  clear q hm hg hbX
  go_enter Tryz.func64, Tryz.ntmps64
  go_wp2_with fail
  go_region_held3 (fun w' => w'.cell? ⟨w.heap.size, 0, none⟩ = some (.int .i64 b))
    (first
      | exact HT0.out)
    (first
      | (go_at_call 68; with_reducible refine (HR.out _ HX.out).mono ?_; rintro e w' ⟨rfl, rfl⟩))
  all_goals
    go_wp2_with fail
    go_ret2
    exact ⟨rfl, HX.out⟩

theorem deed_note (w : World) (aN : Option Addr) (c c2 : Nat) (aT : Option Addr) :
    Calls Tryz.prog 64 #[.pointer (some ⟨qB, 0, none⟩), .int .i64 13, .slice aN 0 c, .slice aT 0 c2] w fun e w' => e = .returned (.tuple #[.iface 124 (.agg #[]), .bool true]) ∧ w = w' := by
  go_enter Tryz.func64, Tryz.ntmps64
  go_wp2_with fail
  go_ret2
  exact ⟨rfl, rfl⟩
end Q
end Go.Proofs.YtmcalgnpinolmaaGreat
namespace Go.Proofs.YtmcalgnpinolmaaGreat
open Go.RowKit Go.Maps
set_option linter.unusedVariables false
set_option linter.unusedSimpArgs false
set_option maxRecDepth 20000
namespace Q
variable {qB lB N nb mE : Nat} {k : Kp}

theorem ret_rec {fn : Func} (hres : fn.results = #[.cell 4 98, .tmp 5]) {R : Ending → World → Prop} {a : Act} {w : World} {b : Nat} {v0 v1 v2 v3 v4 v5 v6 : Value} (v : Value) (h4 : a.tmps.getD 4 undef = .pointer (some ⟨b, 0, none⟩)) (h5 : a.tmps.getD 5 undef = v) (hd : a.defers = []) (hrow : w.rangeAt b 0 [v0, v1, v2, v3, v4, v5, v6])
    (hR : R (.returned (.tuple #[.agg #[v0, v1, v2, v3, v4, v5, v6], v])) w) : bodyPost Tryz.prog fn R .ret a w := by
  have k0 : w.cell? ⟨b, 0, none⟩ = _ := hrow 0 _ rfl
  have k1 : w.cell? ⟨b, 1, none⟩ = _ := hrow 1 _ rfl
  have k2 : w.cell? ⟨b, 2, none⟩ = _ := hrow 2 _ rfl
  have k3 : w.cell? ⟨b, 3, none⟩ = _ := hrow 3 _ rfl
  have k4 : w.cell? ⟨b, 4, none⟩ = _ := hrow 4 _ rfl
  have k5 : w.cell? ⟨b, 5, none⟩ = _ := hrow 5 _ rfl
  have k6 : w.cell? ⟨b, 6, none⟩ = _ := hrow 6 _ rfl
  simp only [Array.getD_eq_getD_getElem?] at h4 h5
  refine bodyPost_ret_by ?_ hd hR
  simp [results, hres, h4, h5, go_sem, k0, k1, k2, k3, k4, k5, k6]

theorem store7' {w : World} {b : Nat} (h : w.there b 0 7) (v0 v1 v2 v3 v4 v5 v6 : Value) : (w.setCells b 0 [v0, v1, v2, v3, v4, v5, v6]).rangeAt b 0 [v0, v1, v2, v3, v4, v5, v6] :=
  World.rangeAt_setCells_same _ _ 0 _ h

theorem store7 {w : World} {b : Nat} {T : TypeId} {u0 u1 u2 u3 u4 u5 u6 : Value} (h : w.heap[b]? = some (.cells #[u0, u1, u2, u3, u4, u5, u6] T (0, 0))) (v0 v1 v2 v3 v4 v5 v6 : Value) : (w.setCells b 0 [v0, v1, v2, v3, v4, v5, v6]).rangeAt b 0 [v0, v1, v2, v3, v4, v5, v6] :=
  World.rangeAt_setCells_same _ _ 0 _ (seven h).2.2.2.2.2.2.2.2

theorem six {w : World} {b : Nat} {T : TypeId} {v0 v1 v2 v3 v4 v5 : Value} (h : w.heap[b]? = some (.cells #[v0, v1, v2, v3, v4, v5] T (0, 0))) : w.cell? ⟨b, 0, none⟩ = some v0 ∧ w.cell? ⟨b, 1, none⟩ = some v1 ∧ w.cell? ⟨b, 2, none⟩ = some v2 ∧ w.cell? ⟨b, 3, none⟩ = some v3 ∧ w.cell? ⟨b, 4, none⟩ = some v4 ∧ w.cell? ⟨b, 5, none⟩ = some v5 ∧ (∀ o, w.frozen? ⟨b, o, none⟩ = false) ∧ w.there b 0 6 := by
  have hf : ∀ o, w.frozen? ⟨b, o, none⟩ = false := fun o => by simp [World.frozen?, h]
  refine ⟨by simp [World.cell?, h], by simp [World.cell?, h], by simp [World.cell?, h], by simp [World.cell?, h], by simp [World.cell?, h], by simp [World.cell?, h], hf, fun j hj => ⟨?_, hf _⟩⟩
  match j, hj with
  | 0, _ => simp [World.cell?, h]
  | 1, _ => simp [World.cell?, h]
  | 2, _ => simp [World.cell?, h]
  | 3, _ => simp [World.cell?, h]
  | 4, _ => simp [World.cell?, h]
  | 5, _ => simp [World.cell?, h]

theorem row6 {w : World} {b : Nat} {T : TypeId} {v0 v1 v2 v3 v4 v5 : Value} (h : w.heap[b]? = some (.cells #[v0, v1, v2, v3, v4, v5] T (0, 0))) : w.rangeAt b 0 [v0, v1, v2, v3, v4, v5] := by
  obtain ⟨m0, m1, m2, m3, m4, m5, _, _⟩ := six h
  intro i v hv
  match i, hv with
  | 0, hv => injection hv with e; rw [← e]; exact m0
  | 1, hv => injection hv with e; rw [← e]; exact m1
  | 2, hv => injection hv with e; rw [← e]; exact m2
  | 3, hv => injection hv with e; rw [← e]; exact m3
  | 4, hv => injection hv with e; rw [← e]; exact m4
  | 5, hv => injection hv with e; rw [← e]; exact m5

/-- what Decode gives of a cache's payload -/
theorem dec_q (w : World) (s : ByteArray) (d : Deed) (k : Kp) (hs : s = txQ d k) (hm : C.M.May (recQ d k)) (hf : C.M.Fits (recQ d k)) (hsz : s.size ≤ 1000) :
    Calls Tryz.prog 63 #[.slice (some ⟨w.heap.size, 0, none⟩) s.size (grownCap w s.size 0 5)] (Lib.bytesWorld w 5 s) fun e w' => ∃ er aN cN aT cT, e = .returned (.tuple #[.agg #[.int .i64 (recQ d k).kind, .slice aN (recQ d k).nums.length cN, .slice aT (recQ d k).texts.length cT], .int .i64 er]) ∧
      C.Row w' aN (recQ d k).nums.length cN (C.i64s (recQ d k).nums) ∧ C.Row w' aT (recQ d k).texts.length cT (C.strs (recQ d k).texts) ∧ (∀ b o, aN = some ⟨b, o, none⟩ → o = 0) ∧ (∀ b o, aT = some ⟨b, o, none⟩ → o = 0) ∧ Below w.heap.size w w' := by
  have hd : C.M.dec s.data.toList = some (recQ d k) := by rw [hs]; exact C.M.dec_enc hm hf
  refine (dec_yes _ _ _ _ _ (bytes_row w s hsz) _ hd).mono ?_
  rintro e w' ⟨er, aN, nN, cN, aT, nT, cT, rfl, ho, hb⟩
  have e1 : nN = (recQ d k).nums.length := ho.at.lenN
  have e2 : nT = (recQ d k).texts.length := ho.at.lenT
  subst e1 e2
  exact ⟨er, aN, cN, aT, cT, rfl, ho.at.nums, ho.at.texts, fun b o h => ((C.own_row ho.nums).2 b o h).2, fun b o h => ((C.own_row ho.texts).2 b o h).2, (bytes_below w s).trans (hb.mono (bytes_below w s).size)⟩

/-- the numbers lie one behind another -/
theorem row_all {w : World} {a : Option Addr} {n c : Nat} {l : List Int} (h : C.Row w a n c (C.i64s l)) (hn : 0 < n) : ∃ g o, a = some ⟨g, o, none⟩ ∧ g < w.heap.size ∧ n ≤ c ∧ c ≤ maxLen ∧ ∀ i v, l[i]? = some v → w.cell? ⟨g, o + i, none⟩ = some (.int .i64 v) := by
  obtain ⟨g, o, t, e, hlt, _, _⟩ := C.row_i64 h 0 hn
  have hl : l.length = n := by have := h.1; rw [C.i64s_length] at this; exact this
  refine ⟨g, o, e, hlt, h.2.1, h.2.2.1, fun i v hv => ?_⟩
  obtain ⟨g', o', t', e', _, ht, hc⟩ := C.row_i64 h i (by have := (List.getElem?_eq_some_iff.1 hv).1; omega)
  rw [e] at e'
  injection e' with e'
  injection e' with e1 e2
  subst e1 e2
  rw [hv] at ht
  injection ht with ht
  rw [ht]; exact hc
set_option maxHeartbeats 4000000 in
theorem read_layT (w : World) (q : CacheC w qB lB N nb mE k) (b ep sq : Int) (data : ByteArray) (cl n : Int) (kp kq t0 t1 t2 t3 : Int) (hnb : nb ≤ 32) (hd : MayD nb (.lay ⟨b, ep, sq, data, true, cl, n⟩)) (hk : MayK ⟨kp, kq, t0, t1, t2, t3⟩) :
    Calls Tryz.prog 43 #[.pointer (some ⟨qB, 0, none⟩), .string (txQ (.lay ⟨b, ep, sq, data, true, cl, n⟩) ⟨kp, kq, t0, t1, t2, t3⟩)] w fun e w' => e = .returned (.tuple #[.agg #[.iface 117 (.agg #[.int .i64 b, .int .i64 ep, .int .i64 sq, .string data, .bool true, .int .i64 cl, .int .i64 n]), .int .i64 kp, .int .i64 kq, .int .i64 t0, .int .i64 t1, .int .i64 t2, .int .i64 t3], .bool true]) ∧ Below w.heap.size w w' := by
  have hmay := recQ_may hd hnb hk
  have hsz := txQ_size (k := ⟨kp, kq, t0, t1, t2, t3⟩) hd hnb
  obtain ⟨s, hs⟩ : ∃ s, s = txQ (.lay ⟨b, ep, sq, data, true, cl, n⟩) ⟨kp, kq, t0, t1, t2, t3⟩ := ⟨_, rfl⟩
  rw [← hs] at hsz ⊢
  have kc := conv_str (w.alloc (.cells #[.nilIface, .int .i64 0, .int .i64 0, .int .i64 0, .int .i64 0, .int .i64 0, .int .i64 0] 98)) s
  have HD : Hid (Calls Tryz.prog 63 #[.slice (some ⟨(w.alloc (.cells #[.nilIface, .int .i64 0, .int .i64 0, .int .i64 0, .int .i64 0, .int .i64 0, .int .i64 0] 98)).heap.size, 0, none⟩) s.size (grownCap (w.alloc (.cells #[.nilIface, .int .i64 0, .int .i64 0, .int .i64 0, .int .i64 0, .int .i64 0, .int .i64 0] 98)) s.size 0 5)] (Lib.bytesWorld (w.alloc (.cells #[.nilIface, .int .i64 0, .int .i64 0, .int .i64 0, .int .i64 0, .int .i64 0, .int .i64 0] 98)) 5 s) fun e w' => ∃ er aN cN aT cT, e = .returned (.tuple #[.agg #[.int .i64 10, .slice aN 12 cN, .slice aT 1 cT], .int .i64 er]) ∧
      C.Row w' aN 12 cN (C.i64s [b, ep, sq, 1, cl, n, kp, kq, t0, t1, t2, t3]) ∧ C.Row w' aT 1 cT (C.strs [data]) ∧ (∀ b o, aN = some ⟨b, o, none⟩ → o = 0) ∧ (∀ b o, aT = some ⟨b, o, none⟩ → o = 0) ∧ Below (w.alloc (.cells #[.nilIface, .int .i64 0, .int .i64 0, .int .i64 0, .int .i64 0, .int .i64 0, .int .i64 0] 98)).heap.size (w.alloc (.cells #[.nilIface, .int .i64 0, .int .i64 0, .int .i64 0, .int .i64 0, .int .i64 0, .int .i64 0] 98)) w') := Lib.hid (dec_q (w.alloc (.cells #[.nilIface, .int .i64 0, .int .i64 0, .int .i64 0, .int .i64 0, .int .i64 0, .int .i64 0] 98)) s (.lay ⟨b, ep, sq, data, true, cl, n⟩) ⟨kp, kq, t0, t1, t2, t3⟩ hs hmay.1 hmay.2 (by omega))
  have hz0 : (w.alloc (.cells #[.nilIface, .int .i64 0, .int .i64 0, .int .i64 0, .int .i64 0, .int .i64 0, .int .i64 0] 98)).heap.size = w.heap.size + 1 := by simp
  rw [hz0] at HD kc
  have HZ : Hid (∀ w', Below (w.heap.size + 1) (w.alloc (.cells #[.nilIface, .int .i64 0, .int .i64 0, .int .i64 0, .int .i64 0, .int .i64 0, .int .i64 0] 98)) w' → Below w.heap.size w w' ∧ w'.heap[w.heap.size]? = some (.cells #[.nilIface, .int .i64 0, .int .i64 0, .int .i64 0, .int .i64 0, .int .i64 0, .int .i64 0] 98 (0, 0))) := Lib.hid (fun w' hb => ⟨((Below.refl w.heap.size w).alloc (Nat.le_refl _) _).trans (hb.mono (by omega)), (hb.block _ (by omega)).trans (heap_alloc_new w _)⟩)
  have HQ : Hid (∀ w', Below w.heap.size w w' → CacheC w' qB lB N nb mE k) := Lib.hid (fun w' hb => q.below hb q.lt)
  have HKo : Hid (keepOk kp kq [t0, t1, t2, t3]) := Lib.hid ⟨hk.p, hk.q, rfl, by intro x hx; simp at hx; rcases hx with rfl | rfl | rfl | rfl; exact hk.a0; exact hk.a1; exact hk.a2; exact hk.a3⟩
  have Hd := Lib.hid hd
  have hb1 : Below (w.heap.size + 1) (w.alloc (.cells #[.nilIface, .int .i64 0, .int .i64 0, .int .i64 0, .int .i64 0, .int .i64 0, .int .i64 0] 98)) (Lib.bytesWorld (w.alloc (.cells #[.nilIface, .int .i64 0, .int .i64 0, .int .i64 0, .int .i64 0, .int .i64 0, .int .i64 0] 98)) 5 s) := by have := bytes_below (w.alloc (.cells #[.nilIface, .int .i64 0, .int .i64 0, .int .i64 0, .int .i64 0, .int .i64 0, .int .i64 0] 98)) s; rwa [hz0] at this
  have HB1 := Lib.hid hb1
  generalize grownCap (w.alloc (.cells #[.nilIface, .int .i64 0, .int .i64 0, .int .i64 0, .int .i64 0, .int .i64 0, .int .i64 0] 98)) s.size 0 5 = cp at *
  generalize Lib.bytesWorld (w.alloc (.cells #[.nilIface, .int .i64 0, .int .i64 0, .int .i64 0, .int .i64 0, .int .i64 0, .int .i64 0] 98)) 5 s = w1 at *
  clear q hmay hsz hs hd hk hb1 hz0
  go_enter Tryz.func43, Tryz.ntmps43
  go_wp2_with fail
  refine HD.out.mono ?_
  rintro e w2 ⟨er, aN, cN, aT, cT, rfl, hrN, hrT, hoN, hoT, hb2⟩
  obtain ⟨g, o, rfl, hg, hcN, hcM, hcells⟩ := row_all hrN (by omega)
  obtain rfl : o = 0 := hoN g o rfl
  obtain ⟨gT, oT, tT, hT1, hgT, hT2, hcellT⟩ := C.row_str hrT 0 (by omega)
  subst hT1
  obtain rfl : oT = 0 := hoT gT oT rfl
  simp at hT2
  subst hT2
  rw [Nat.zero_add] at hcellT
  have HB2 := Lib.hid hb2
  have hw2 := HZ.out w2 hb2
  have HW2 := Lib.hid hw2.1
  have HZ2 := Lib.hid hw2.2
  have HL2 : Hid (w.heap.size < w2.heap.size) := Lib.hid (lt_of_heap hw2.2)
  have Hg := Lib.hid (And.intro hg hcM)
  have c_o0 : w2.cell? ⟨g, 0, none⟩ = some (.int .i64 b) := by have := hcells 0 _ rfl; rwa [Nat.zero_add] at this
  have c_o1 : w2.cell? ⟨g, 1, none⟩ = some (.int .i64 ep) := by have := hcells 1 _ rfl; rwa [Nat.zero_add] at this
  have c_o2 : w2.cell? ⟨g, 2, none⟩ = some (.int .i64 sq) := by have := hcells 2 _ rfl; rwa [Nat.zero_add] at this
  have c_o3 : w2.cell? ⟨g, 3, none⟩ = some (.int .i64 1) := by have := hcells 3 _ rfl; rwa [Nat.zero_add] at this
  have c_o4 : w2.cell? ⟨g, 4, none⟩ = some (.int .i64 cl) := by have := hcells 4 _ rfl; rwa [Nat.zero_add] at this
  have c_o5 : w2.cell? ⟨g, 5, none⟩ = some (.int .i64 n) := by have := hcells 5 _ rfl; rwa [Nat.zero_add] at this
  have c_kp : w2.cell? ⟨g, 6, none⟩ = some (.int .i64 kp) := by have := hcells 6 _ rfl; rwa [Nat.zero_add] at this
  have c_kq : w2.cell? ⟨g, 7, none⟩ = some (.int .i64 kq) := by have := hcells 7 _ rfl; rwa [Nat.zero_add] at this
  have c_t0 : w2.cell? ⟨g, 8, none⟩ = some (.int .i64 t0) := by have := hcells 8 _ rfl; rwa [Nat.zero_add] at this
  have c_t1 : w2.cell? ⟨g, 9, none⟩ = some (.int .i64 t1) := by have := hcells 9 _ rfl; rwa [Nat.zero_add] at this
  have c_t2 : w2.cell? ⟨g, 10, none⟩ = some (.int .i64 t2) := by have := hcells 10 _ rfl; rwa [Nat.zero_add] at this
  have c_t3 : w2.cell? ⟨g, 11, none⟩ = some (.int .i64 t3) := by have := hcells 11 _ rfl; rwa [Nat.zero_add] at this
  have hcI : (12 : Int) ≤ (cN : Int) := by omega
  have hne0 : ¬ cN = 6 := by omega
  have hcI2 : (6 : Int) ≤ (cN : Int) := by omega
  have hne2 : ¬ cN - 6 = 2 := by omega
  have hcT := Lib.hid hcN
  have HRd : Hid (∀ w', Below w2.heap.size w2 w' → Calls Tryz.prog 64 #[.pointer (some ⟨qB, 0, none⟩), .int .i64 10, .slice (some ⟨g, 0, none⟩) 6 cN, .slice (some ⟨gT, 0, none⟩) 1 cT] w' fun e w'' => e = .returned (.tuple #[.iface 117 (.agg #[.int .i64 b, .int .i64 ep, .int .i64 sq, .string data, .bool true, .int .i64 cl, .int .i64 n]), .bool true]) ∧ Below w'.heap.size w' w'') := Lib.hid (fun w' hb => by
    have hqc := HQ.out w' (hw2.1.trans (hb.mono hw2.1.size))
    have e : ∀ o, w'.cell? ⟨g, o, none⟩ = w2.cell? ⟨g, o, none⟩ := fun o => hb.cell (p := ⟨g, o, none⟩) hg
    have eT : w'.cell? ⟨gT, 0, none⟩ = w2.cell? ⟨gT, 0, none⟩ := hb.cell (p := ⟨gT, 0, none⟩) hgT
    exact deed_lay_true w' hqc b ep sq data cl n Hd.out g cN gT cT (Nat.lt_of_lt_of_le hg hb.size) (Nat.lt_of_lt_of_le hgT hb.size) (by omega) ⟨by rw [e]; exact c_o0, by rw [e]; exact c_o1, by rw [e]; exact c_o2, by rw [e]; exact c_o3, by rw [e]; exact c_o4, by rw [e]; exact c_o5, by rw [eT]; exact hcellT⟩)
  have HKp : Hid (∀ (w' : World) (a' : Option Addr) (c' : Nat), a' = some ⟨g, 8, none⟩ → c' = cN - 6 - 2 → Below w2.heap.size w2 w' → Calls Tryz.prog 53 #[.agg #[.int .i64 kp, .int .i64 kq], .slice a' 4 c'] w' fun e w'' => e = .returned (.tuple #[.agg #[.int .i64 kp, .int .i64 kq, .int .i64 t0, .int .i64 t1, .int .i64 t2, .int .i64 t3], .bool true]) ∧ Below w'.heap.size w' w'') := Lib.hid (fun w' a' c' ha hc' hb => by
    subst ha hc'
    have e : ∀ o, w'.cell? ⟨g, o, none⟩ = w2.cell? ⟨g, o, none⟩ := fun o => hb.cell (p := ⟨g, o, none⟩) hg
    refine keeping_yes w' kp kq (some ⟨g, 8, none⟩) 4 (cN - 6 - 2) [t0, t1, t2, t3] ⟨rfl, by omega, by omega, .inr ⟨g, 8, rfl, Nat.lt_of_lt_of_le hg hb.size, fun i hi => ?_⟩⟩ HKo.out
    match i, hi with
    | 0, _ => exact (e _).trans c_t0
    | 1, _ => exact (e _).trans c_t1
    | 2, _ => exact (e _).trans c_t2
    | 3, _ => exact (e _).trans c_t3)
  have HS : Hid (∀ w', Below w2.heap.size w2 w' → w'.cell? ⟨g, 6, none⟩ = some (.int .i64 kp) ∧ w'.cell? ⟨g, 7, none⟩ = some (.int .i64 kq)) := Lib.hid (fun w' hb => by
    have e : ∀ o, w'.cell? ⟨g, o, none⟩ = w2.cell? ⟨g, o, none⟩ := fun o => hb.cell (p := ⟨g, o, none⟩) hg
    exact ⟨(e _).trans c_kp, (e _).trans c_kq⟩)
  have hbR := (Below.refl w2.heap.size w2).alloc (Nat.le_refl _) (.cells #[.int .i64 10, .slice (some ⟨g, 0, none⟩) 12 cN, .slice (some ⟨gT, 0, none⟩) 1 cT] 141)
  have HBR := Lib.hid hbR
  clear hrN hrT hoN hoT hb2 hcells hg hcN hcM hbR
  have HT : Hid (∀ w', Below (w2.heap.size + 1) (w2.alloc (.cells #[.int .i64 10, .slice (some ⟨g, 0, none⟩) 12 cN, .slice (some ⟨gT, 0, none⟩) 1 cT] 141)) w' → w'.cell? ⟨w2.heap.size, 0, none⟩ = some (.int .i64 10) ∧ w'.cell? ⟨w2.heap.size, 1, none⟩ = some (.slice (some ⟨g, 0, none⟩) 12 cN) ∧ w'.cell? ⟨w2.heap.size, 2, none⟩ = some (.slice (some ⟨gT, 0, none⟩) 1 cT)) := Lib.hid (fun w' hb => by
    have e : ∀ o, w'.cell? ⟨w2.heap.size, o, none⟩ = (w2.alloc (.cells #[.int .i64 10, .slice (some ⟨g, 0, none⟩) 12 cN, .slice (some ⟨gT, 0, none⟩) 1 cT] 141)).cell? ⟨w2.heap.size, o, none⟩ := fun o => hb.cell (p := ⟨w2.heap.size, o, none⟩) (by simp)
    refine ⟨?_, ?_, ?_⟩ <;> (rw [e, World.cell?_alloc_mark]; rfl))
  have HT0 := Lib.hid (HT.out _ (Below.refl _ _).drew)
  go_wp2_with fail
  go_region_held3 (fun w' => w'.cell? ⟨w2.heap.size, 0, none⟩ = some (.int .i64 10) ∧ w'.cell? ⟨w2.heap.size, 1, none⟩ = some (.slice (some ⟨g, 0, none⟩) 12 cN) ∧ w'.cell? ⟨w2.heap.size, 2, none⟩ = some (.slice (some ⟨gT, 0, none⟩) 1 cT))
    (first
      | exact HT0.out
      | exact HT1.out)
    (first
      | (go_at_call 64; with_reducible refine (HRd.out _ HBR.out.drew).mono ?_; rintro e w3 ⟨rfl, hb3⟩
         have HB3 : Hid (Below w2.heap.size w2 w3) := Lib.hid (HBR.out.drew.trans (hb3.mono HBR.out.drew.size))
         have HT1 := Lib.hid (HT.out w3 ((Below.refl _ _).drew.trans (hb3.mono (by simp [World.drew]))))
         clear hb3))
  all_goals
    clear HT0 HT HRd HBR
    go_wp2_with fail
    have HBA : Hid (Below w2.heap.size w2 (w3.alloc (.cells #[.int .i64 0, .int .i64 0, .int .i64 0, .int .i64 0, .int .i64 0, .int .i64 0] 92)).drew) := Lib.hid (HB3.out.alloc HB3.out.size _).drew
    have HSA := Lib.hid (HS.out _ HB3.out.drew)
    have HSB := Lib.hid (HS.out _ HBA.out)
    go_cut [12, 10] (fun p v wx => ∃ g6, p = .pointer (some ⟨g6, 0, none⟩) ∧ v = .bool true ∧ w2.heap.size ≤ g6 ∧ g6 < wx.heap.size ∧ wx.rangeAt g6 0 [.int .i64 kp, .int .i64 kq, .int .i64 t0, .int .i64 t1, .int .i64 t2, .int .i64 t3] ∧ Below w2.heap.size w2 wx)
    case first =>
      go_region_held3 (fun w' => w'.cell? ⟨g, 6, none⟩ = some (.int .i64 kp) ∧ w'.cell? ⟨g, 7, none⟩ = some (.int .i64 kq))
        (first
          | with_reducible exact HSA.out
          | with_reducible exact HSB.out
          | with_reducible exact HSC.out
          | with_reducible exact HSD.out
          | with_reducible exact HSE.out
          | exact HSD.out
          | (trace_state; fail))
        (first
          | (go_at_call 53; with_reducible refine (HKp.out _ _ _ (by first | rfl | exact if_neg hne2) (by rfl) HB3.out.drew).mono ?_; rintro e w4 ⟨rfl, hb4⟩
             have HB4 : Hid (Below w2.heap.size w2 w4) := Lib.hid (HB3.out.drew.trans (hb4.mono HB3.out.drew.size))
             have HSC := Lib.hid (HS.out _ HB4.out)
             have HSD := Lib.hid (HS.out _ (HB4.out.alloc HB4.out.size (.cells #[.int .i64 kp, .int .i64 kq, .int .i64 t0, .int .i64 t1, .int .i64 t2, .int .i64 t3] 92)))
             have HSE := Lib.hid (HS.out _ (HB4.out.alloc HB4.out.size (.cells #[.int .i64 0, .int .i64 0, .int .i64 0, .int .i64 0, .int .i64 0, .int .i64 0] 92)))
             clear hb4)
          | (go_at_call 53; with_reducible refine (HKp.out _ _ _ (by first | rfl | exact if_neg hne2) (by rfl) HBA.out).mono ?_; rintro e w4 ⟨rfl, hb4⟩
             have HB4 : Hid (Below w2.heap.size w2 w4) := Lib.hid (HBA.out.trans (hb4.mono HBA.out.size))
             have HL4 : Hid (w3.heap.size < (w4.setCells w3.heap.size 0 [.int .i64 kp, .int .i64 kq, .int .i64 t0, .int .i64 t1, .int .i64 t2, .int .i64 t3]).heap.size) := Lib.hid (by have := hb4.size; simp [World.drew] at this; simp [World.setCells]; omega)
             have hz6 : w4.heap[w3.heap.size]? = some (.cells #[.int .i64 0, .int .i64 0, .int .i64 0, .int .i64 0, .int .i64 0, .int .i64 0] 92 (0, 0)) := (hb4.block w3.heap.size (by simp [World.drew])).trans (heap_alloc_new w3 _)
             obtain ⟨m0, m1, m2, m3, m4, m5, fz, ht⟩ := six hz6
             have HT6 := Lib.hid ht
             have HSC := Lib.hid (HS.out _ HB4.out)
             have HBD : Hid (Below w2.heap.size w2 (w4.setCells w3.heap.size 0 [.int .i64 kp, .int .i64 kq, .int .i64 t0, .int .i64 t1, .int .i64 t2, .int .i64 t3])) := Lib.hid (HB4.out.trans (((But.refl [w3.heap.size] w4).sets w3.heap.size 0 [.int .i64 kp, .int .i64 kq, .int .i64 t0, .int .i64 t1, .int .i64 t2, .int .i64 t3] (.inl (by simp))).to_below (by intro x hx; simp at hx; subst hx; exact HB3.out.size) HB4.out.size))
             have HSD := Lib.hid (HS.out _ HBD.out)
             clear hb4 hz6 ht))
      all_goals
        go_wp2_with fail
        go_meet
        first
          | exact ⟨w3.heap.size, rfl, rfl, HB3.out.size, HL4.out, World.rangeAt_setCells_same _ _ 0 [.int .i64 kp, .int .i64 kq, .int .i64 t0, .int .i64 t1, .int .i64 t2, .int .i64 t3] HT6.out, HBD.out⟩
          | exact ⟨w4.heap.size, rfl, rfl, HB4.out.size, by simp, row6 (heap_alloc_new w4 _), HB4.out.alloc HB4.out.size _⟩
          | trace_state
    case rest =>
      obtain ⟨g6, rfl, rfl, hge, hlt, hr6, hbc⟩ := hcut
      have HBc := Lib.hid hbc
      have n0 : wc.cell? ⟨g6, 0, none⟩ = some (.int .i64 kp) := hr6 0 _ rfl
      have n1 : wc.cell? ⟨g6, 1, none⟩ = some (.int .i64 kq) := hr6 1 _ rfl
      have n2 : wc.cell? ⟨g6, 2, none⟩ = some (.int .i64 t0) := hr6 2 _ rfl
      have n3 : wc.cell? ⟨g6, 3, none⟩ = some (.int .i64 t1) := hr6 3 _ rfl
      have n4 : wc.cell? ⟨g6, 4, none⟩ = some (.int .i64 t2) := hr6 4 _ rfl
      have n5 : wc.cell? ⟨g6, 5, none⟩ = some (.int .i64 t3) := hr6 5 _ rfl
      have hzc : wc.heap[w.heap.size]? = some (.cells #[.nilIface, .int .i64 0, .int .i64 0, .int .i64 0, .int .i64 0, .int .i64 0, .int .i64 0] 98 (0, 0)) := (hbc.block _ HL2.out).trans HZ2.out
      obtain ⟨m0, m1, m2, m3, m4, m5, m6, fz, ht⟩ := seven hzc
      have HT7 := Lib.hid ht
      have HE : Hid (Below w.heap.size w wc) := Lib.hid (HW2.out.trans (hbc.mono HW2.out.size))
      clear hge hlt hr6 hbc hzc ht
      go_wp2
      refine ret_rec rfl (.bool true) rfl rfl rfl (store7' HT7.out (.iface 117 (.agg #[.int .i64 b, .int .i64 ep, .int .i64 sq, .string data, .bool true, .int .i64 cl, .int .i64 n])) (.int .i64 kp) (.int .i64 kq) (.int .i64 t0) (.int .i64 t1) (.int .i64 t2) (.int .i64 t3)) ⟨rfl, ?_⟩
      exact HE.out.trans (((But.refl [w.heap.size] wc).sets w.heap.size 0 [.iface 117 (.agg #[.int .i64 b, .int .i64 ep, .int .i64 sq, .string data, .bool true, .int .i64 cl, .int .i64 n]), .int .i64 kp, .int .i64 kq, .int .i64 t0, .int .i64 t1, .int .i64 t2, .int .i64 t3] (.inl (by simp))).to_below (by simp) HE.out.size)

set_option maxHeartbeats 4000000 in
theorem read_layF (w : World) (q : CacheC w qB lB N nb mE k) (b ep sq : Int) (data : ByteArray) (cl n : Int) (kp kq t0 t1 t2 t3 : Int) (hnb : nb ≤ 32) (hd : MayD nb (.lay ⟨b, ep, sq, data, false, cl, n⟩)) (hk : MayK ⟨kp, kq, t0, t1, t2, t3⟩) :
    Calls Tryz.prog 43 #[.pointer (some ⟨qB, 0, none⟩), .string (txQ (.lay ⟨b, ep, sq, data, false, cl, n⟩) ⟨kp, kq, t0, t1, t2, t3⟩)] w fun e w' => e = .returned (.tuple #[.agg #[.iface 117 (.agg #[.int .i64 b, .int .i64 ep, .int .i64 sq, .string data, .bool false, .int .i64 cl, .int .i64 n]), .int .i64 kp, .int .i64 kq, .int .i64 t0, .int .i64 t1, .int .i64 t2, .int .i64 t3], .bool true]) ∧ Below w.heap.size w w' := by
  have hmay := recQ_may hd hnb hk
  have hsz := txQ_size (k := ⟨kp, kq, t0, t1, t2, t3⟩) hd hnb
  obtain ⟨s, hs⟩ : ∃ s, s = txQ (.lay ⟨b, ep, sq, data, false, cl, n⟩) ⟨kp, kq, t0, t1, t2, t3⟩ := ⟨_, rfl⟩
  rw [← hs] at hsz ⊢
  have kc := conv_str (w.alloc (.cells #[.nilIface, .int .i64 0, .int .i64 0, .int .i64 0, .int .i64 0, .int .i64 0, .int .i64 0] 98)) s
  have HD : Hid (Calls Tryz.prog 63 #[.slice (some ⟨(w.alloc (.cells #[.nilIface, .int .i64 0, .int .i64 0, .int .i64 0, .int .i64 0, .int .i64 0, .int .i64 0] 98)).heap.size, 0, none⟩) s.size (grownCap (w.alloc (.cells #[.nilIface, .int .i64 0, .int .i64 0, .int .i64 0, .int .i64 0, .int .i64 0, .int .i64 0] 98)) s.size 0 5)] (Lib.bytesWorld (w.alloc (.cells #[.nilIface, .int .i64 0, .int .i64 0, .int .i64 0, .int .i64 0, .int .i64 0, .int .i64 0] 98)) 5 s) fun e w' => ∃ er aN cN aT cT, e = .returned (.tuple #[.agg #[.int .i64 10, .slice aN 12 cN, .slice aT 1 cT], .int .i64 er]) ∧
      C.Row w' aN 12 cN (C.i64s [b, ep, sq, 0, cl, n, kp, kq, t0, t1, t2, t3]) ∧ C.Row w' aT 1 cT (C.strs [data]) ∧ (∀ b o, aN = some ⟨b, o, none⟩ → o = 0) ∧ (∀ b o, aT = some ⟨b, o, none⟩ → o = 0) ∧ Below (w.alloc (.cells #[.nilIface, .int .i64 0, .int .i64 0, .int .i64 0, .int .i64 0, .int .i64 0, .int .i64 0] 98)).heap.size (w.alloc (.cells #[.nilIface, .int .i64 0, .int .i64 0, .int .i64 0, .int .i64 0, .int .i64 0, .int .i64 0] 98)) w') := Lib.hid (dec_q (w.alloc (.cells #[.nilIface, .int .i64 0, .int .i64 0, .int .i64 0, .int .i64 0, .int .i64 0, .int .i64 0] 98)) s (.lay ⟨b, ep, sq, data, false, cl, n⟩) ⟨kp, kq, t0, t1, t2, t3⟩ hs hmay.1 hmay.2 (by omega))
  have hz0 : (w.alloc (.cells #[.nilIface, .int .i64 0, .int .i64 0, .int .i64 0, .int .i64 0, .int .i64 0, .int .i64 0] 98)).heap.size = w.heap.size + 1 := by simp
  rw [hz0] at HD kc
  have HZ : Hid (∀ w', Below (w.heap.size + 1) (w.alloc (.cells #[.nilIface, .int .i64 0, .int .i64 0, .int .i64 0, .int .i64 0, .int .i64 0, .int .i64 0] 98)) w' → Below w.heap.size w w' ∧ w'.heap[w.heap.size]? = some (.cells #[.nilIface, .int .i64 0, .int .i64 0, .int .i64 0, .int .i64 0, .int .i64 0, .int .i64 0] 98 (0, 0))) := Lib.hid (fun w' hb => ⟨((Below.refl w.heap.size w).alloc (Nat.le_refl _) _).trans (hb.mono (by omega)), (hb.block _ (by omega)).trans (heap_alloc_new w _)⟩)
  have HQ : Hid (∀ w', Below w.heap.size w w' → CacheC w' qB lB N nb mE k) := Lib.hid (fun w' hb => q.below hb q.lt)
  have HKo : Hid (keepOk kp kq [t0, t1, t2, t3]) := Lib.hid ⟨hk.p, hk.q, rfl, by intro x hx; simp at hx; rcases hx with rfl | rfl | rfl | rfl; exact hk.a0; exact hk.a1; exact hk.a2; exact hk.a3⟩
  have Hd := Lib.hid hd
  have hb1 : Below (w.heap.size + 1) (w.alloc (.cells #[.nilIface, .int .i64 0, .int .i64 0, .int .i64 0, .int .i64 0, .int .i64 0, .int .i64 0] 98)) (Lib.bytesWorld (w.alloc (.cells #[.nilIface, .int .i64 0, .int .i64 0, .int .i64 0, .int .i64 0, .int .i64 0, .int .i64 0] 98)) 5 s) := by have := bytes_below (w.alloc (.cells #[.nilIface, .int .i64 0, .int .i64 0, .int .i64 0, .int .i64 0, .int .i64 0, .int .i64 0] 98)) s; rwa [hz0] at this
  have HB1 := Lib.hid hb1
  generalize grownCap (w.alloc (.cells #[.nilIface, .int .i64 0, .int .i64 0, .int .i64 0, .int .i64 0, .int .i64 0, .int .i64 0] 98)) s.size 0 5 = cp at *
  generalize Lib.bytesWorld (w.alloc (.cells #[.nilIface, .int .i64 0, .int .i64 0, .int .i64 0, .int .i64 0, .int .i64 0, .int .i64 0] 98)) 5 s = w1 at *
  clear q hmay hsz hs hd hk hb1 hz0
  go_enter Tryz.func43, Tryz.ntmps43
  go_wp2_with fail
  refine HD.out.mono ?_
  rintro e w2 ⟨er, aN, cN, aT, cT, rfl, hrN, hrT, hoN, hoT, hb2⟩
  obtain ⟨g, o, rfl, hg, hcN, hcM, hcells⟩ := row_all hrN (by omega)
  obtain rfl : o = 0 := hoN g o rfl
  obtain ⟨gT, oT, tT, hT1, hgT, hT2, hcellT⟩ := C.row_str hrT 0 (by omega)
  subst hT1
  obtain rfl : oT = 0 := hoT gT oT rfl
  simp at hT2
  subst hT2
  rw [Nat.zero_add] at hcellT
  have HB2 := Lib.hid hb2
  have hw2 := HZ.out w2 hb2
  have HW2 := Lib.hid hw2.1
  have HZ2 := Lib.hid hw2.2
  have HL2 : Hid (w.heap.size < w2.heap.size) := Lib.hid (lt_of_heap hw2.2)
  have Hg := Lib.hid (And.intro hg hcM)
  have c_o0 : w2.cell? ⟨g, 0, none⟩ = some (.int .i64 b) := by have := hcells 0 _ rfl; rwa [Nat.zero_add] at this
  have c_o1 : w2.cell? ⟨g, 1, none⟩ = some (.int .i64 ep) := by have := hcells 1 _ rfl; rwa [Nat.zero_add] at this
  have c_o2 : w2.cell? ⟨g, 2, none⟩ = some (.int .i64 sq) := by have := hcells 2 _ rfl; rwa [Nat.zero_add] at this
  have c_o3 : w2.cell? ⟨g, 3, none⟩ = some (.int .i64 0) := by have := hcells 3 _ rfl; rwa [Nat.zero_add] at this
  have c_o4 : w2.cell? ⟨g, 4, none⟩ = some (.int .i64 cl) := by have := hcells 4 _ rfl; rwa [Nat.zero_add] at this
  have c_o5 : w2.cell? ⟨g, 5, none⟩ = some (.int .i64 n) := by have := hcells 5 _ rfl; rwa [Nat.zero_add] at this
  have c_kp : w2.cell? ⟨g, 6, none⟩ = some (.int .i64 kp) := by have := hcells 6 _ rfl; rwa [Nat.zero_add] at this
  have c_kq : w2.cell? ⟨g, 7, none⟩ = some (.int .i64 kq) := by have := hcells 7 _ rfl; rwa [Nat.zero_add] at this
  have c_t0 : w2.cell? ⟨g, 8, none⟩ = some (.int .i64 t0) := by have := hcells 8 _ rfl; rwa [Nat.zero_add] at this
  have c_t1 : w2.cell? ⟨g, 9, none⟩ = some (.int .i64 t1) := by have := hcells 9 _ rfl; rwa [Nat.zero_add] at this
  have c_t2 : w2.cell? ⟨g, 10, none⟩ = some (.int .i64 t2) := by have := hcells 10 _ rfl; rwa [Nat.zero_add] at this
  have c_t3 : w2.cell? ⟨g, 11, none⟩ = some (.int .i64 t3) := by have := hcells 11 _ rfl; rwa [Nat.zero_add] at this
  have hcI : (12 : Int) ≤ (cN : Int) := by omega
  have hne0 : ¬ cN = 6 := by omega
  have hcI2 : (6 : Int) ≤ (cN : Int) := by omega
  have hne2 : ¬ cN - 6 = 2 := by omega
  have hcT := Lib.hid hcN
  have HRd : Hid (∀ w', Below w2.heap.size w2 w' → Calls Tryz.prog 64 #[.pointer (some ⟨qB, 0, none⟩), .int .i64 10, .slice (some ⟨g, 0, none⟩) 6 cN, .slice (some ⟨gT, 0, none⟩) 1 cT] w' fun e w'' => e = .returned (.tuple #[.iface 117 (.agg #[.int .i64 b, .int .i64 ep, .int .i64 sq, .string data, .bool false, .int .i64 cl, .int .i64 n]), .bool true]) ∧ Below w'.heap.size w' w'') := Lib.hid (fun w' hb => by
    have hqc := HQ.out w' (hw2.1.trans (hb.mono hw2.1.size))
    have e : ∀ o, w'.cell? ⟨g, o, none⟩ = w2.cell? ⟨g, o, none⟩ := fun o => hb.cell (p := ⟨g, o, none⟩) hg
    have eT : w'.cell? ⟨gT, 0, none⟩ = w2.cell? ⟨gT, 0, none⟩ := hb.cell (p := ⟨gT, 0, none⟩) hgT
    exact deed_lay_false w' hqc b ep sq data cl n Hd.out g cN gT cT (Nat.lt_of_lt_of_le hg hb.size) (Nat.lt_of_lt_of_le hgT hb.size) (by omega) ⟨by rw [e]; exact c_o0, by rw [e]; exact c_o1, by rw [e]; exact c_o2, by rw [e]; exact c_o3, by rw [e]; exact c_o4, by rw [e]; exact c_o5, by rw [eT]; exact hcellT⟩)
  have HKp : Hid (∀ (w' : World) (a' : Option Addr) (c' : Nat), a' = some ⟨g, 8, none⟩ → c' = cN - 6 - 2 → Below w2.heap.size w2 w' → Calls Tryz.prog 53 #[.agg #[.int .i64 kp, .int .i64 kq], .slice a' 4 c'] w' fun e w'' => e = .returned (.tuple #[.agg #[.int .i64 kp, .int .i64 kq, .int .i64 t0, .int .i64 t1, .int .i64 t2, .int .i64 t3], .bool true]) ∧ Below w'.heap.size w' w'') := Lib.hid (fun w' a' c' ha hc' hb => by
    subst ha hc'
    have e : ∀ o, w'.cell? ⟨g, o, none⟩ = w2.cell? ⟨g, o, none⟩ := fun o => hb.cell (p := ⟨g, o, none⟩) hg
    refine keeping_yes w' kp kq (some ⟨g, 8, none⟩) 4 (cN - 6 - 2) [t0, t1, t2, t3] ⟨rfl, by omega, by omega, .inr ⟨g, 8, rfl, Nat.lt_of_lt_of_le hg hb.size, fun i hi => ?_⟩⟩ HKo.out
    match i, hi with
    | 0, _ => exact (e _).trans c_t0
    | 1, _ => exact (e _).trans c_t1
    | 2, _ => exact (e _).trans c_t2
    | 3, _ => exact (e _).trans c_t3)
  have HS : Hid (∀ w', Below w2.heap.size w2 w' → w'.cell? ⟨g, 6, none⟩ = some (.int .i64 kp) ∧ w'.cell? ⟨g, 7, none⟩ = some (.int .i64 kq)) := Lib.hid (fun w' hb => by
    have e : ∀ o, w'.cell? ⟨g, o, none⟩ = w2.cell? ⟨g, o, none⟩ := fun o => hb.cell (p := ⟨g, o, none⟩) hg
    exact ⟨(e _).trans c_kp, (e _).trans c_kq⟩)
  have hbR := (Below.refl w2.heap.size w2).alloc (Nat.le_refl _) (.cells #[.int .i64 10, .slice (some ⟨g, 0, none⟩) 12 cN, .slice (some ⟨gT, 0, none⟩) 1 cT] 141)
  have HBR := Lib.hid hbR
  clear hrN hrT hoN hoT hb2 hcells hg hcN hcM hbR
  have HT : Hid (∀ w', Below (w2.heap.size + 1) (w2.alloc (.cells #[.int .i64 10, .slice (some ⟨g, 0, none⟩) 12 cN, .slice (some ⟨gT, 0, none⟩) 1 cT] 141)) w' → w'.cell? ⟨w2.heap.size, 0, none⟩ = some (.int .i64 10) ∧ w'.cell? ⟨w2.heap.size, 1, none⟩ = some (.slice (some ⟨g, 0, none⟩) 12 cN) ∧ w'.cell? ⟨w2.heap.size, 2, none⟩ = some (.slice (some ⟨gT, 0, none⟩) 1 cT)) := Lib.hid (fun w' hb => by
    have e : ∀ o, w'.cell? ⟨w2.heap.size, o, none⟩ = (w2.alloc (.cells #[.int .i64 10, .slice (some ⟨g, 0, none⟩) 12 cN, .slice (some ⟨gT, 0, none⟩) 1 cT] 141)).cell? ⟨w2.heap.size, o, none⟩ := fun o => hb.cell (p := ⟨w2.heap.size, o, none⟩) (by simp)
    refine ⟨?_, ?_, ?_⟩ <;> (rw [e, World.cell?_alloc_mark]; rfl))
  have HT0 := Lib.hid (HT.out _ (Below.refl _ _).drew)
  go_wp2_with fail
  go_region_held3 (fun w' => w'.cell? ⟨w2.heap.size, 0, none⟩ = some (.int .i64 10) ∧ w'.cell? ⟨w2.heap.size, 1, none⟩ = some (.slice (some ⟨g, 0, none⟩) 12 cN) ∧ w'.cell? ⟨w2.heap.size, 2, none⟩ = some (.slice (some ⟨gT, 0, none⟩) 1 cT))
    (first
      | exact HT0.out
      | exact HT1.out)
    (first
      | (go_at_call 64; with_reducible refine (HRd.out _ HBR.out.drew).mono ?_; rintro e w3 ⟨rfl, hb3⟩
         have HB3 : Hid (Below w2.heap.size w2 w3) := Lib.hid (HBR.out.drew.trans (hb3.mono HBR.out.drew.size))
         have HT1 := Lib.hid (HT.out w3 ((Below.refl _ _).drew.trans (hb3.mono (by simp [World.drew]))))
         clear hb3))
  all_goals
    clear HT0 HT HRd HBR
    go_wp2_with fail
    have HBA : Hid (Below w2.heap.size w2 (w3.alloc (.cells #[.int .i64 0, .int .i64 0, .int .i64 0, .int .i64 0, .int .i64 0, .int .i64 0] 92)).drew) := Lib.hid (HB3.out.alloc HB3.out.size _).drew
    have HSA := Lib.hid (HS.out _ HB3.out.drew)
    have HSB := Lib.hid (HS.out _ HBA.out)
    go_cut [12, 10] (fun p v wx => ∃ g6, p = .pointer (some ⟨g6, 0, none⟩) ∧ v = .bool true ∧ w2.heap.size ≤ g6 ∧ g6 < wx.heap.size ∧ wx.rangeAt g6 0 [.int .i64 kp, .int .i64 kq, .int .i64 t0, .int .i64 t1, .int .i64 t2, .int .i64 t3] ∧ Below w2.heap.size w2 wx)
    case first =>
      go_region_held3 (fun w' => w'.cell? ⟨g, 6, none⟩ = some (.int .i64 kp) ∧ w'.cell? ⟨g, 7, none⟩ = some (.int .i64 kq))
        (first
          | with_reducible exact HSA.out
          | with_reducible exact HSB.out
          | with_reducible exact HSC.out
          | with_reducible exact HSD.out
          | with_reducible exact HSE.out
          | exact HSD.out
          | (trace_state; fail))
        (first
          | (go_at_call 53; with_reducible refine (HKp.out _ _ _ (by first | rfl | exact if_neg hne2) (by rfl) HB3.out.drew).mono ?_; rintro e w4 ⟨rfl, hb4⟩
             have HB4 : Hid (Below w2.heap.size w2 w4) := Lib.hid (HB3.out.drew.trans (hb4.mono HB3.out.drew.size))
             have HSC := Lib.hid (HS.out _ HB4.out)
             have HSD := Lib.hid (HS.out _ (HB4.out.alloc HB4.out.size (.cells #[.int .i64 kp, .int .i64 kq, .int .i64 t0, .int .i64 t1, .int .i64 t2, .int .i64 t3] 92)))
             have HSE := Lib.hid (HS.out _ (HB4.out.alloc HB4.out.size (.cells #[.int .i64 0, .int .i64 0, .int .i64 0, .int .i64 0, .int .i64 0, .int .i64 0] 92)))
             clear hb4)
          | (go_at_call 53; with_reducible refine (HKp.out _ _ _ (by first | rfl | exact if_neg hne2) (by rfl) HBA.out).mono ?_; rintro e w4 ⟨rfl, hb4⟩
             have HB4 : Hid (Below w2.heap.size w2 w4) := Lib.hid (HBA.out.trans (hb4.mono HBA.out.size))
             have HL4 : Hid (w3.heap.size < (w4.setCells w3.heap.size 0 [.int .i64 kp, .int .i64 kq, .int .i64 t0, .int .i64 t1, .int .i64 t2, .int .i64 t3]).heap.size) := Lib.hid (by have := hb4.size; simp [World.drew] at this; simp [World.setCells]; omega)
             have hz6 : w4.heap[w3.heap.size]? = some (.cells #[.int .i64 0, .int .i64 0, .int .i64 0, .int .i64 0, .int .i64 0, .int .i64 0] 92 (0, 0)) := (hb4.block w3.heap.size (by simp [World.drew])).trans (heap_alloc_new w3 _)
             obtain ⟨m0, m1, m2, m3, m4, m5, fz, ht⟩ := six hz6
             have HT6 := Lib.hid ht
             have HSC := Lib.hid (HS.out _ HB4.out)
             have HBD : Hid (Below w2.heap.size w2 (w4.setCells w3.heap.size 0 [.int .i64 kp, .int .i64 kq, .int .i64 t0, .int .i64 t1, .int .i64 t2, .int .i64 t3])) := Lib.hid (HB4.out.trans (((But.refl [w3.heap.size] w4).sets w3.heap.size 0 [.int .i64 kp, .int .i64 kq, .int .i64 t0, .int .i64 t1, .int .i64 t2, .int .i64 t3] (.inl (by simp))).to_below (by intro x hx; simp at hx; subst hx; exact HB3.out.size) HB4.out.size))
             have HSD := Lib.hid (HS.out _ HBD.out)
             clear hb4 hz6 ht))
      all_goals
        go_wp2_with fail
        go_meet
        first
          | exact ⟨w3.heap.size, rfl, rfl, HB3.out.size, HL4.out, World.rangeAt_setCells_same _ _ 0 [.int .i64 kp, .int .i64 kq, .int .i64 t0, .int .i64 t1, .int .i64 t2, .int .i64 t3] HT6.out, HBD.out⟩
          | exact ⟨w4.heap.size, rfl, rfl, HB4.out.size, by simp, row6 (heap_alloc_new w4 _), HB4.out.alloc HB4.out.size _⟩
          | trace_state
    case rest =>
      obtain ⟨g6, rfl, rfl, hge, hlt, hr6, hbc⟩ := hcut
      have HBc := Lib.hid hbc
      have n0 : wc.cell? ⟨g6, 0, none⟩ = some (.int .i64 kp) := hr6 0 _ rfl
      have n1 : wc.cell? ⟨g6, 1, none⟩ = some (.int .i64 kq) := hr6 1 _ rfl
      have n2 : wc.cell? ⟨g6, 2, none⟩ = some (.int .i64 t0) := hr6 2 _ rfl
      have n3 : wc.cell? ⟨g6, 3, none⟩ = some (.int .i64 t1) := hr6 3 _ rfl
      have n4 : wc.cell? ⟨g6, 4, none⟩ = some (.int .i64 t2) := hr6 4 _ rfl
      have n5 : wc.cell? ⟨g6, 5, none⟩ = some (.int .i64 t3) := hr6 5 _ rfl
      have hzc : wc.heap[w.heap.size]? = some (.cells #[.nilIface, .int .i64 0, .int .i64 0, .int .i64 0, .int .i64 0, .int .i64 0, .int .i64 0] 98 (0, 0)) := (hbc.block _ HL2.out).trans HZ2.out
      obtain ⟨m0, m1, m2, m3, m4, m5, m6, fz, ht⟩ := seven hzc
      have HT7 := Lib.hid ht
      have HE : Hid (Below w.heap.size w wc) := Lib.hid (HW2.out.trans (hbc.mono HW2.out.size))
      clear hge hlt hr6 hbc hzc ht
      go_wp2
      refine ret_rec rfl (.bool true) rfl rfl rfl (store7' HT7.out (.iface 117 (.agg #[.int .i64 b, .int .i64 ep, .int .i64 sq, .string data, .bool false, .int .i64 cl, .int .i64 n])) (.int .i64 kp) (.int .i64 kq) (.int .i64 t0) (.int .i64 t1) (.int .i64 t2) (.int .i64 t3)) ⟨rfl, ?_⟩
      exact HE.out.trans (((But.refl [w.heap.size] wc).sets w.heap.size 0 [.iface 117 (.agg #[.int .i64 b, .int .i64 ep, .int .i64 sq, .string data, .bool false, .int .i64 cl, .int .i64 n]), .int .i64 kp, .int .i64 kq, .int .i64 t0, .int .i64 t1, .int .i64 t2, .int .i64 t3] (.inl (by simp))).to_below (by simp) HE.out.size)

set_option maxHeartbeats 4000000 in
theorem read_clean (w : World) (q : CacheC w qB lB N nb mE k) (b ep sq : Int) (kp kq t0 t1 t2 t3 : Int) (hnb : nb ≤ 32) (hd : MayD nb (.clean b ep sq)) (hk : MayK ⟨kp, kq, t0, t1, t2, t3⟩) :
    Calls Tryz.prog 43 #[.pointer (some ⟨qB, 0, none⟩), .string (txQ (.clean b ep sq) ⟨kp, kq, t0, t1, t2, t3⟩)] w fun e w' => e = .returned (.tuple #[.agg #[.iface 120 (.agg #[.int .i64 b, .int .i64 ep, .int .i64 sq]), .int .i64 kp, .int .i64 kq, .int .i64 t0, .int .i64 t1, .int .i64 t2, .int .i64 t3], .bool true]) ∧ Below w.heap.size w w' := by
  have hmay := recQ_may hd hnb hk
  have hsz := txQ_size (k := ⟨kp, kq, t0, t1, t2, t3⟩) hd hnb
  obtain ⟨s, hs⟩ : ∃ s, s = txQ (.clean b ep sq) ⟨kp, kq, t0, t1, t2, t3⟩ := ⟨_, rfl⟩
  rw [← hs] at hsz ⊢
  have kc := conv_str (w.alloc (.cells #[.nilIface, .int .i64 0, .int .i64 0, .int .i64 0, .int .i64 0, .int .i64 0, .int .i64 0] 98)) s
  have HD : Hid (Calls Tryz.prog 63 #[.slice (some ⟨(w.alloc (.cells #[.nilIface, .int .i64 0, .int .i64 0, .int .i64 0, .int .i64 0, .int .i64 0, .int .i64 0] 98)).heap.size, 0, none⟩) s.size (grownCap (w.alloc (.cells #[.nilIface, .int .i64 0, .int .i64 0, .int .i64 0, .int .i64 0, .int .i64 0, .int .i64 0] 98)) s.size 0 5)] (Lib.bytesWorld (w.alloc (.cells #[.nilIface, .int .i64 0, .int .i64 0, .int .i64 0, .int .i64 0, .int .i64 0, .int .i64 0] 98)) 5 s) fun e w' => ∃ er aN cN aT cT, e = .returned (.tuple #[.agg #[.int .i64 11, .slice aN 9 cN, .slice aT 0 cT], .int .i64 er]) ∧
      C.Row w' aN 9 cN (C.i64s [b, ep, sq, kp, kq, t0, t1, t2, t3]) ∧ C.Row w' aT 0 cT (C.strs []) ∧ (∀ b o, aN = some ⟨b, o, none⟩ → o = 0) ∧ (∀ b o, aT = some ⟨b, o, none⟩ → o = 0) ∧ Below (w.alloc (.cells #[.nilIface, .int .i64 0, .int .i64 0, .int .i64 0, .int .i64 0, .int .i64 0, .int .i64 0] 98)).heap.size (w.alloc (.cells #[.nilIface, .int .i64 0, .int .i64 0, .int .i64 0, .int .i64 0, .int .i64 0, .int .i64 0] 98)) w') := Lib.hid (dec_q (w.alloc (.cells #[.nilIface, .int .i64 0, .int .i64 0, .int .i64 0, .int .i64 0, .int .i64 0, .int .i64 0] 98)) s (.clean b ep sq) ⟨kp, kq, t0, t1, t2, t3⟩ hs hmay.1 hmay.2 (by omega))
  have hz0 : (w.alloc (.cells #[.nilIface, .int .i64 0, .int .i64 0, .int .i64 0, .int .i64 0, .int .i64 0, .int .i64 0] 98)).heap.size = w.heap.size + 1 := by simp
  rw [hz0] at HD kc
  have HZ : Hid (∀ w', Below (w.heap.size + 1) (w.alloc (.cells #[.nilIface, .int .i64 0, .int .i64 0, .int .i64 0, .int .i64 0, .int .i64 0, .int .i64 0] 98)) w' → Below w.heap.size w w' ∧ w'.heap[w.heap.size]? = some (.cells #[.nilIface, .int .i64 0, .int .i64 0, .int .i64 0, .int .i64 0, .int .i64 0, .int .i64 0] 98 (0, 0))) := Lib.hid (fun w' hb => ⟨((Below.refl w.heap.size w).alloc (Nat.le_refl _) _).trans (hb.mono (by omega)), (hb.block _ (by omega)).trans (heap_alloc_new w _)⟩)
  have HQ : Hid (∀ w', Below w.heap.size w w' → CacheC w' qB lB N nb mE k) := Lib.hid (fun w' hb => q.below hb q.lt)
  have HKo : Hid (keepOk kp kq [t0, t1, t2, t3]) := Lib.hid ⟨hk.p, hk.q, rfl, by intro x hx; simp at hx; rcases hx with rfl | rfl | rfl | rfl; exact hk.a0; exact hk.a1; exact hk.a2; exact hk.a3⟩
  have Hd := Lib.hid hd
  have hb1 : Below (w.heap.size + 1) (w.alloc (.cells #[.nilIface, .int .i64 0, .int .i64 0, .int .i64 0, .int .i64 0, .int .i64 0, .int .i64 0] 98)) (Lib.bytesWorld (w.alloc (.cells #[.nilIface, .int .i64 0, .int .i64 0, .int .i64 0, .int .i64 0, .int .i64 0, .int .i64 0] 98)) 5 s) := by have := bytes_below (w.alloc (.cells #[.nilIface, .int .i64 0, .int .i64 0, .int .i64 0, .int .i64 0, .int .i64 0, .int .i64 0] 98)) s; rwa [hz0] at this
  have HB1 := Lib.hid hb1
  generalize grownCap (w.alloc (.cells #[.nilIface, .int .i64 0, .int .i64 0, .int .i64 0, .int .i64 0, .int .i64 0, .int .i64 0] 98)) s.size 0 5 = cp at *
  generalize Lib.bytesWorld (w.alloc (.cells #[.nilIface, .int .i64 0, .int .i64 0, .int .i64 0, .int .i64 0, .int .i64 0, .int .i64 0] 98)) 5 s = w1 at *
  clear q hmay hsz hs hd hk hb1 hz0
  go_enter Tryz.func43, Tryz.ntmps43
  go_wp2_with fail
  refine HD.out.mono ?_
  rintro e w2 ⟨er, aN, cN, aT, cT, rfl, hrN, hrT, hoN, hoT, hb2⟩
  obtain ⟨g, o, rfl, hg, hcN, hcM, hcells⟩ := row_all hrN (by omega)
  obtain rfl : o = 0 := hoN g o rfl
  have HB2 := Lib.hid hb2
  have hw2 := HZ.out w2 hb2
  have HW2 := Lib.hid hw2.1
  have HZ2 := Lib.hid hw2.2
  have HL2 : Hid (w.heap.size < w2.heap.size) := Lib.hid (lt_of_heap hw2.2)
  have Hg := Lib.hid (And.intro hg hcM)
  have c_o0 : w2.cell? ⟨g, 0, none⟩ = some (.int .i64 b) := by have := hcells 0 _ rfl; rwa [Nat.zero_add] at this
  have c_o1 : w2.cell? ⟨g, 1, none⟩ = some (.int .i64 ep) := by have := hcells 1 _ rfl; rwa [Nat.zero_add] at this
  have c_o2 : w2.cell? ⟨g, 2, none⟩ = some (.int .i64 sq) := by have := hcells 2 _ rfl; rwa [Nat.zero_add] at this
  have c_kp : w2.cell? ⟨g, 3, none⟩ = some (.int .i64 kp) := by have := hcells 3 _ rfl; rwa [Nat.zero_add] at this
  have c_kq : w2.cell? ⟨g, 4, none⟩ = some (.int .i64 kq) := by have := hcells 4 _ rfl; rwa [Nat.zero_add] at this
  have c_t0 : w2.cell? ⟨g, 5, none⟩ = some (.int .i64 t0) := by have := hcells 5 _ rfl; rwa [Nat.zero_add] at this
  have c_t1 : w2.cell? ⟨g, 6, none⟩ = some (.int .i64 t1) := by have := hcells 6 _ rfl; rwa [Nat.zero_add] at this
  have c_t2 : w2.cell? ⟨g, 7, none⟩ = some (.int .i64 t2) := by have := hcells 7 _ rfl; rwa [Nat.zero_add] at this
  have c_t3 : w2.cell? ⟨g, 8, none⟩ = some (.int .i64 t3) := by have := hcells 8 _ rfl; rwa [Nat.zero_add] at this
  have hcI : (9 : Int) ≤ (cN : Int) := by omega
  have hne0 : ¬ cN = 3 := by omega
  have hcI2 : (3 : Int) ≤ (cN : Int) := by omega
  have hne2 : ¬ cN - 3 = 2 := by omega
  have hcT := Lib.hid hcN
  have HRd : Hid (∀ w', Below w2.heap.size w2 w' → Calls Tryz.prog 64 #[.pointer (some ⟨qB, 0, none⟩), .int .i64 11, .slice (some ⟨g, 0, none⟩) 3 cN, .slice aT 0 cT] w' fun e w'' => e = .returned (.tuple #[.iface 120 (.agg #[.int .i64 b, .int .i64 ep, .int .i64 sq]), .bool true]) ∧ Below w'.heap.size w' w'') := Lib.hid (fun w' hb => by
    have hqc := HQ.out w' (hw2.1.trans (hb.mono hw2.1.size))
    have e : ∀ o, w'.cell? ⟨g, o, none⟩ = w2.cell? ⟨g, o, none⟩ := fun o => hb.cell (p := ⟨g, o, none⟩) hg
    exact deed_clean w' hqc b ep sq Hd.out g cN cT aT (Nat.lt_of_lt_of_le hg hb.size) (by omega) ⟨by rw [e]; exact c_o0, by rw [e]; exact c_o1, by rw [e]; exact c_o2⟩)
  have HKp : Hid (∀ (w' : World) (a' : Option Addr) (c' : Nat), a' = some ⟨g, 5, none⟩ → c' = cN - 3 - 2 → Below w2.heap.size w2 w' → Calls Tryz.prog 53 #[.agg #[.int .i64 kp, .int .i64 kq], .slice a' 4 c'] w' fun e w'' => e = .returned (.tuple #[.agg #[.int .i64 kp, .int .i64 kq, .int .i64 t0, .int .i64 t1, .int .i64 t2, .int .i64 t3], .bool true]) ∧ Below w'.heap.size w' w'') := Lib.hid (fun w' a' c' ha hc' hb => by
    subst ha hc'
    have e : ∀ o, w'.cell? ⟨g, o, none⟩ = w2.cell? ⟨g, o, none⟩ := fun o => hb.cell (p := ⟨g, o, none⟩) hg
    refine keeping_yes w' kp kq (some ⟨g, 5, none⟩) 4 (cN - 3 - 2) [t0, t1, t2, t3] ⟨rfl, by omega, by omega, .inr ⟨g, 5, rfl, Nat.lt_of_lt_of_le hg hb.size, fun i hi => ?_⟩⟩ HKo.out
    match i, hi with
    | 0, _ => exact (e _).trans c_t0
    | 1, _ => exact (e _).trans c_t1
    | 2, _ => exact (e _).trans c_t2
    | 3, _ => exact (e _).trans c_t3)
  have HS : Hid (∀ w', Below w2.heap.size w2 w' → w'.cell? ⟨g, 3, none⟩ = some (.int .i64 kp) ∧ w'.cell? ⟨g, 4, none⟩ = some (.int .i64 kq)) := Lib.hid (fun w' hb => by
    have e : ∀ o, w'.cell? ⟨g, o, none⟩ = w2.cell? ⟨g, o, none⟩ := fun o => hb.cell (p := ⟨g, o, none⟩) hg
    exact ⟨(e _).trans c_kp, (e _).trans c_kq⟩)
  have hbR := (Below.refl w2.heap.size w2).alloc (Nat.le_refl _) (.cells #[.int .i64 11, .slice (some ⟨g, 0, none⟩) 9 cN, .slice aT 0 cT] 141)
  have HBR := Lib.hid hbR
  clear hrN hrT hoN hoT hb2 hcells hg hcN hcM hbR
  have HT : Hid (∀ w', Below (w2.heap.size + 1) (w2.alloc (.cells #[.int .i64 11, .slice (some ⟨g, 0, none⟩) 9 cN, .slice aT 0 cT] 141)) w' → w'.cell? ⟨w2.heap.size, 0, none⟩ = some (.int .i64 11) ∧ w'.cell? ⟨w2.heap.size, 1, none⟩ = some (.slice (some ⟨g, 0, none⟩) 9 cN) ∧ w'.cell? ⟨w2.heap.size, 2, none⟩ = some (.slice aT 0 cT)) := Lib.hid (fun w' hb => by
    have e : ∀ o, w'.cell? ⟨w2.heap.size, o, none⟩ = (w2.alloc (.cells #[.int .i64 11, .slice (some ⟨g, 0, none⟩) 9 cN, .slice aT 0 cT] 141)).cell? ⟨w2.heap.size, o, none⟩ := fun o => hb.cell (p := ⟨w2.heap.size, o, none⟩) (by simp)
    refine ⟨?_, ?_, ?_⟩ <;> (rw [e, World.cell?_alloc_mark]; rfl))
  have HT0 := Lib.hid (HT.out _ (Below.refl _ _).drew)
  go_wp2_with fail
  go_region_held3 (fun w' => w'.cell? ⟨w2.heap.size, 0, none⟩ = some (.int .i64 11) ∧ w'.cell? ⟨w2.heap.size, 1, none⟩ = some (.slice (some ⟨g, 0, none⟩) 9 cN) ∧ w'.cell? ⟨w2.heap.size, 2, none⟩ = some (.slice aT 0 cT))
    (first
      | exact HT0.out
      | exact HT1.out)
    (first
      | (go_at_call 64; with_reducible refine (HRd.out _ HBR.out.drew).mono ?_; rintro e w3 ⟨rfl, hb3⟩
         have HB3 : Hid (Below w2.heap.size w2 w3) := Lib.hid (HBR.out.drew.trans (hb3.mono HBR.out.drew.size))
         have HT1 := Lib.hid (HT.out w3 ((Below.refl _ _).drew.trans (hb3.mono (by simp [World.drew]))))
         clear hb3))
  all_goals
    clear HT0 HT HRd HBR
    go_wp2_with fail
    have HBA : Hid (Below w2.heap.size w2 (w3.alloc (.cells #[.int .i64 0, .int .i64 0, .int .i64 0, .int .i64 0, .int .i64 0, .int .i64 0] 92)).drew) := Lib.hid (HB3.out.alloc HB3.out.size _).drew
    have HSA := Lib.hid (HS.out _ HB3.out.drew)
    have HSB := Lib.hid (HS.out _ HBA.out)
    go_cut [12, 10] (fun p v wx => ∃ g6, p = .pointer (some ⟨g6, 0, none⟩) ∧ v = .bool true ∧ w2.heap.size ≤ g6 ∧ g6 < wx.heap.size ∧ wx.rangeAt g6 0 [.int .i64 kp, .int .i64 kq, .int .i64 t0, .int .i64 t1, .int .i64 t2, .int .i64 t3] ∧ Below w2.heap.size w2 wx)
    case first =>
      go_region_held3 (fun w' => w'.cell? ⟨g, 3, none⟩ = some (.int .i64 kp) ∧ w'.cell? ⟨g, 4, none⟩ = some (.int .i64 kq))
        (first
          | with_reducible exact HSA.out
          | with_reducible exact HSB.out
          | with_reducible exact HSC.out
          | with_reducible exact HSD.out
          | with_reducible exact HSE.out
          | exact HSD.out
          | (trace_state; fail))
        (first
          | (go_at_call 53; with_reducible refine (HKp.out _ _ _ (by first | rfl | exact if_neg hne2) (by rfl) HB3.out.drew).mono ?_; rintro e w4 ⟨rfl, hb4⟩
             have HB4 : Hid (Below w2.heap.size w2 w4) := Lib.hid (HB3.out.drew.trans (hb4.mono HB3.out.drew.size))
             have HSC := Lib.hid (HS.out _ HB4.out)
             have HSD := Lib.hid (HS.out _ (HB4.out.alloc HB4.out.size (.cells #[.int .i64 kp, .int .i64 kq, .int .i64 t0, .int .i64 t1, .int .i64 t2, .int .i64 t3] 92)))
             have HSE := Lib.hid (HS.out _ (HB4.out.alloc HB4.out.size (.cells #[.int .i64 0, .int .i64 0, .int .i64 0, .int .i64 0, .int .i64 0, .int .i64 0] 92)))
             clear hb4)
          | (go_at_call 53; with_reducible refine (HKp.out _ _ _ (by first | rfl | exact if_neg hne2) (by rfl) HBA.out).mono ?_; rintro e w4 ⟨rfl, hb4⟩
             have HB4 : Hid (Below w2.heap.size w2 w4) := Lib.hid (HBA.out.trans (hb4.mono HBA.out.size))
             have HL4 : Hid (w3.heap.size < (w4.setCells w3.heap.size 0 [.int .i64 kp, .int .i64 kq, .int .i64 t0, .int .i64 t1, .int .i64 t2, .int .i64 t3]).heap.size) := Lib.hid (by have := hb4.size; simp [World.drew] at this; simp [World.setCells]; omega)
             have hz6 : w4.heap[w3.heap.size]? = some (.cells #[.int .i64 0, .int .i64 0, .int .i64 0, .int .i64 0, .int .i64 0, .int .i64 0] 92 (0, 0)) := (hb4.block w3.heap.size (by simp [World.drew])).trans (heap_alloc_new w3 _)
             obtain ⟨m0, m1, m2, m3, m4, m5, fz, ht⟩ := six hz6
             have HT6 := Lib.hid ht
             have HSC := Lib.hid (HS.out _ HB4.out)
             have HBD : Hid (Below w2.heap.size w2 (w4.setCells w3.heap.size 0 [.int .i64 kp, .int .i64 kq, .int .i64 t0, .int .i64 t1, .int .i64 t2, .int .i64 t3])) := Lib.hid (HB4.out.trans (((But.refl [w3.heap.size] w4).sets w3.heap.size 0 [.int .i64 kp, .int .i64 kq, .int .i64 t0, .int .i64 t1, .int .i64 t2, .int .i64 t3] (.inl (by simp))).to_below (by intro x hx; simp at hx; subst hx; exact HB3.out.size) HB4.out.size))
             have HSD := Lib.hid (HS.out _ HBD.out)
             clear hb4 hz6 ht))
      all_goals
        go_wp2_with fail
        go_meet
        first
          | exact ⟨w3.heap.size, rfl, rfl, HB3.out.size, HL4.out, World.rangeAt_setCells_same _ _ 0 [.int .i64 kp, .int .i64 kq, .int .i64 t0, .int .i64 t1, .int .i64 t2, .int .i64 t3] HT6.out, HBD.out⟩
          | exact ⟨w4.heap.size, rfl, rfl, HB4.out.size, by simp, row6 (heap_alloc_new w4 _), HB4.out.alloc HB4.out.size _⟩
          | trace_state
    case rest =>
      obtain ⟨g6, rfl, rfl, hge, hlt, hr6, hbc⟩ := hcut
      have HBc := Lib.hid hbc
      have n0 : wc.cell? ⟨g6, 0, none⟩ = some (.int .i64 kp) := hr6 0 _ rfl
      have n1 : wc.cell? ⟨g6, 1, none⟩ = some (.int .i64 kq) := hr6 1 _ rfl
      have n2 : wc.cell? ⟨g6, 2, none⟩ = some (.int .i64 t0) := hr6 2 _ rfl
      have n3 : wc.cell? ⟨g6, 3, none⟩ = some (.int .i64 t1) := hr6 3 _ rfl
      have n4 : wc.cell? ⟨g6, 4, none⟩ = some (.int .i64 t2) := hr6 4 _ rfl
      have n5 : wc.cell? ⟨g6, 5, none⟩ = some (.int .i64 t3) := hr6 5 _ rfl
      have hzc : wc.heap[w.heap.size]? = some (.cells #[.nilIface, .int .i64 0, .int .i64 0, .int .i64 0, .int .i64 0, .int .i64 0, .int .i64 0] 98 (0, 0)) := (hbc.block _ HL2.out).trans HZ2.out
      obtain ⟨m0, m1, m2, m3, m4, m5, m6, fz, ht⟩ := seven hzc
      have HT7 := Lib.hid ht
      have HE : Hid (Below w.heap.size w wc) := Lib.hid (HW2.out.trans (hbc.mono HW2.out.size))
      clear hge hlt hr6 hbc hzc ht
      go_wp2
      refine ret_rec rfl (.bool true) rfl rfl rfl (store7' HT7.out (.iface 120 (.agg #[.int .i64 b, .int .i64 ep, .int .i64 sq])) (.int .i64 kp) (.int .i64 kq) (.int .i64 t0) (.int .i64 t1) (.int .i64 t2) (.int .i64 t3)) ⟨rfl, ?_⟩
      exact HE.out.trans (((But.refl [w.heap.size] wc).sets w.heap.size 0 [.iface 120 (.agg #[.int .i64 b, .int .i64 ep, .int .i64 sq]), .int .i64 kp, .int .i64 kq, .int .i64 t0, .int .i64 t1, .int .i64 t2, .int .i64 t3] (.inl (by simp))).to_below (by simp) HE.out.size)

set_option maxHeartbeats 4000000 in
theorem read_drop (w : World) (q : CacheC w qB lB N nb mE k) (b : Int) (kp kq t0 t1 t2 t3 : Int) (hnb : nb ≤ 32) (hd : MayD nb (.drop b)) (hk : MayK ⟨kp, kq, t0, t1, t2, t3⟩) :
    Calls Tryz.prog 43 #[.pointer (some ⟨qB, 0, none⟩), .string (txQ (.drop b) ⟨kp, kq, t0, t1, t2, t3⟩)] w fun e w' => e = .returned (.tuple #[.agg #[.iface 115 (.agg #[.int .i64 b]), .int .i64 kp, .int .i64 kq, .int .i64 t0, .int .i64 t1, .int .i64 t2, .int .i64 t3], .bool true]) ∧ Below w.heap.size w w' := by
  have hmay := recQ_may hd hnb hk
  have hsz := txQ_size (k := ⟨kp, kq, t0, t1, t2, t3⟩) hd hnb
  obtain ⟨s, hs⟩ : ∃ s, s = txQ (.drop b) ⟨kp, kq, t0, t1, t2, t3⟩ := ⟨_, rfl⟩
  rw [← hs] at hsz ⊢
  have kc := conv_str (w.alloc (.cells #[.nilIface, .int .i64 0, .int .i64 0, .int .i64 0, .int .i64 0, .int .i64 0, .int .i64 0] 98)) s
  have HD : Hid (Calls Tryz.prog 63 #[.slice (some ⟨(w.alloc (.cells #[.nilIface, .int .i64 0, .int .i64 0, .int .i64 0, .int .i64 0, .int .i64 0, .int .i64 0] 98)).heap.size, 0, none⟩) s.size (grownCap (w.alloc (.cells #[.nilIface, .int .i64 0, .int .i64 0, .int .i64 0, .int .i64 0, .int .i64 0, .int .i64 0] 98)) s.size 0 5)] (Lib.bytesWorld (w.alloc (.cells #[.nilIface, .int .i64 0, .int .i64 0, .int .i64 0, .int .i64 0, .int .i64 0, .int .i64 0] 98)) 5 s) fun e w' => ∃ er aN cN aT cT, e = .returned (.tuple #[.agg #[.int .i64 12, .slice aN 7 cN, .slice aT 0 cT], .int .i64 er]) ∧
      C.Row w' aN 7 cN (C.i64s [b, kp, kq, t0, t1, t2, t3]) ∧ C.Row w' aT 0 cT (C.strs []) ∧ (∀ b o, aN = some ⟨b, o, none⟩ → o = 0) ∧ (∀ b o, aT = some ⟨b, o, none⟩ → o = 0) ∧ Below (w.alloc (.cells #[.nilIface, .int .i64 0, .int .i64 0, .int .i64 0, .int .i64 0, .int .i64 0, .int .i64 0] 98)).heap.size (w.alloc (.cells #[.nilIface, .int .i64 0, .int .i64 0, .int .i64 0, .int .i64 0, .int .i64 0, .int .i64 0] 98)) w') := Lib.hid (dec_q (w.alloc (.cells #[.nilIface, .int .i64 0, .int .i64 0, .int .i64 0, .int .i64 0, .int .i64 0, .int .i64 0] 98)) s (.drop b) ⟨kp, kq, t0, t1, t2, t3⟩ hs hmay.1 hmay.2 (by omega))
  have hz0 : (w.alloc (.cells #[.nilIface, .int .i64 0, .int .i64 0, .int .i64 0, .int .i64 0, .int .i64 0, .int .i64 0] 98)).heap.size = w.heap.size + 1 := by simp
  rw [hz0] at HD kc
  have HZ : Hid (∀ w', Below (w.heap.size + 1) (w.alloc (.cells #[.nilIface, .int .i64 0, .int .i64 0, .int .i64 0, .int .i64 0, .int .i64 0, .int .i64 0] 98)) w' → Below w.heap.size w w' ∧ w'.heap[w.heap.size]? = some (.cells #[.nilIface, .int .i64 0, .int .i64 0, .int .i64 0, .int .i64 0, .int .i64 0, .int .i64 0] 98 (0, 0))) := Lib.hid (fun w' hb => ⟨((Below.refl w.heap.size w).alloc (Nat.le_refl _) _).trans (hb.mono (by omega)), (hb.block _ (by omega)).trans (heap_alloc_new w _)⟩)
  have HQ : Hid (∀ w', Below w.heap.size w w' → CacheC w' qB lB N nb mE k) := Lib.hid (fun w' hb => q.below hb q.lt)
  have HKo : Hid (keepOk kp kq [t0, t1, t2, t3]) := Lib.hid ⟨hk.p, hk.q, rfl, by intro x hx; simp at hx; rcases hx with rfl | rfl | rfl | rfl; exact hk.a0; exact hk.a1; exact hk.a2; exact hk.a3⟩
  have Hd := Lib.hid hd
  have hb1 : Below (w.heap.size + 1) (w.alloc (.cells #[.nilIface, .int .i64 0, .int .i64 0, .int .i64 0, .int .i64 0, .int .i64 0, .int .i64 0] 98)) (Lib.bytesWorld (w.alloc (.cells #[.nilIface, .int .i64 0, .int .i64 0, .int .i64 0, .int .i64 0, .int .i64 0, .int .i64 0] 98)) 5 s) := by have := bytes_below (w.alloc (.cells #[.nilIface, .int .i64 0, .int .i64 0, .int .i64 0, .int .i64 0, .int .i64 0, .int .i64 0] 98)) s; rwa [hz0] at this
  have HB1 := Lib.hid hb1
  generalize grownCap (w.alloc (.cells #[.nilIface, .int .i64 0, .int .i64 0, .int .i64 0, .int .i64 0, .int .i64 0, .int .i64 0] 98)) s.size 0 5 = cp at *
  generalize Lib.bytesWorld (w.alloc (.cells #[.nilIface, .int .i64 0, .int .i64 0, .int .i64 0, .int .i64 0, .int .i64 0, .int .i64 0] 98)) 5 s = w1 at *
  clear q hmay hsz hs hd hk hb1 hz0
  go_enter Tryz.func43, Tryz.ntmps43
  go_wp2_with fail
  refine HD.out.mono ?_
  rintro e w2 ⟨er, aN, cN, aT, cT, rfl, hrN, hrT, hoN, hoT, hb2⟩
  obtain ⟨g, o, rfl, hg, hcN, hcM, hcells⟩ := row_all hrN (by omega)
  obtain rfl : o = 0 := hoN g o rfl
  have HB2 := Lib.hid hb2
  have hw2 := HZ.out w2 hb2
  have HW2 := Lib.hid hw2.1
  have HZ2 := Lib.hid hw2.2
  have HL2 : Hid (w.heap.size < w2.heap.size) := Lib.hid (lt_of_heap hw2.2)
  have Hg := Lib.hid (And.intro hg hcM)
  have c_o0 : w2.cell? ⟨g, 0, none⟩ = some (.int .i64 b) := by have := hcells 0 _ rfl; rwa [Nat.zero_add] at this
  have c_kp : w2.cell? ⟨g, 1, none⟩ = some (.int .i64 kp) := by have := hcells 1 _ rfl; rwa [Nat.zero_add] at this
  have c_kq : w2.cell? ⟨g, 2, none⟩ = some (.int .i64 kq) := by have := hcells 2 _ rfl; rwa [Nat.zero_add] at this
  have c_t0 : w2.cell? ⟨g, 3, none⟩ = some (.int .i64 t0) := by have := hcells 3 _ rfl; rwa [Nat.zero_add] at this
  have c_t1 : w2.cell? ⟨g, 4, none⟩ = some (.int .i64 t1) := by have := hcells 4 _ rfl; rwa [Nat.zero_add] at this
  have c_t2 : w2.cell? ⟨g, 5, none⟩ = some (.int .i64 t2) := by have := hcells 5 _ rfl; rwa [Nat.zero_add] at this
  have c_t3 : w2.cell? ⟨g, 6, none⟩ = some (.int .i64 t3) := by have := hcells 6 _ rfl; rwa [Nat.zero_add] at this
  have hcI : (7 : Int) ≤ (cN : Int) := by omega
  have hne0 : ¬ cN = 1 := by omega
  have hcI2 : (1 : Int) ≤ (cN : Int) := by omega
  have hne2 : ¬ cN - 1 = 2 := by omega
  have hcT := Lib.hid hcN
  have HRd : Hid (∀ w', Below w2.heap.size w2 w' → Calls Tryz.prog 64 #[.pointer (some ⟨qB, 0, none⟩), .int .i64 12, .slice (some ⟨g, 0, none⟩) 1 cN, .slice aT 0 cT] w' fun e w'' => e = .returned (.tuple #[.iface 115 (.agg #[.int .i64 b]), .bool true]) ∧ Below w'.heap.size w' w'') := Lib.hid (fun w' hb => by
    have hqc := HQ.out w' (hw2.1.trans (hb.mono hw2.1.size))
    have e : ∀ o, w'.cell? ⟨g, o, none⟩ = w2.cell? ⟨g, o, none⟩ := fun o => hb.cell (p := ⟨g, o, none⟩) hg
    exact deed_drop w' hqc b Hd.out g cN cT aT (Nat.lt_of_lt_of_le hg hb.size) (by omega) (by rw [e]; exact c_o0))
  have HKp : Hid (∀ (w' : World) (a' : Option Addr) (c' : Nat), a' = some ⟨g, 3, none⟩ → c' = cN - 1 - 2 → Below w2.heap.size w2 w' → Calls Tryz.prog 53 #[.agg #[.int .i64 kp, .int .i64 kq], .slice a' 4 c'] w' fun e w'' => e = .returned (.tuple #[.agg #[.int .i64 kp, .int .i64 kq, .int .i64 t0, .int .i64 t1, .int .i64 t2, .int .i64 t3], .bool true]) ∧ Below w'.heap.size w' w'') := Lib.hid (fun w' a' c' ha hc' hb => by
    subst ha hc'
    have e : ∀ o, w'.cell? ⟨g, o, none⟩ = w2.cell? ⟨g, o, none⟩ := fun o => hb.cell (p := ⟨g, o, none⟩) hg
    refine keeping_yes w' kp kq (some ⟨g, 3, none⟩) 4 (cN - 1 - 2) [t0, t1, t2, t3] ⟨rfl, by omega, by omega, .inr ⟨g, 3, rfl, Nat.lt_of_lt_of_le hg hb.size, fun i hi => ?_⟩⟩ HKo.out
    match i, hi with
    | 0, _ => exact (e _).trans c_t0
    | 1, _ => exact (e _).trans c_t1
    | 2, _ => exact (e _).trans c_t2
    | 3, _ => exact (e _).trans c_t3)
  have HS : Hid (∀ w', Below w2.heap.size w2 w' → w'.cell? ⟨g, 1, none⟩ = some (.int .i64 kp) ∧ w'.cell? ⟨g, 2, none⟩ = some (.int .i64 kq)) := Lib.hid (fun w' hb => by
    have e : ∀ o, w'.cell? ⟨g, o, none⟩ = w2.cell? ⟨g, o, none⟩ := fun o => hb.cell (p := ⟨g, o, none⟩) hg
    exact ⟨(e _).trans c_kp, (e _).trans c_kq⟩)
  have hbR := (Below.refl w2.heap.size w2).alloc (Nat.le_refl _) (.cells #[.int .i64 12, .slice (some ⟨g, 0, none⟩) 7 cN, .slice aT 0 cT] 141)
  have HBR := Lib.hid hbR
  clear hrN hrT hoN hoT hb2 hcells hg hcN hcM hbR
  have HT : Hid (∀ w', Below (w2.heap.size + 1) (w2.alloc (.cells #[.int .i64 12, .slice (some ⟨g, 0, none⟩) 7 cN, .slice aT 0 cT] 141)) w' → w'.cell? ⟨w2.heap.size, 0, none⟩ = some (.int .i64 12) ∧ w'.cell? ⟨w2.heap.size, 1, none⟩ = some (.slice (some ⟨g, 0, none⟩) 7 cN) ∧ w'.cell? ⟨w2.heap.size, 2, none⟩ = some (.slice aT 0 cT)) := Lib.hid (fun w' hb => by
    have e : ∀ o, w'.cell? ⟨w2.heap.size, o, none⟩ = (w2.alloc (.cells #[.int .i64 12, .slice (some ⟨g, 0, none⟩) 7 cN, .slice aT 0 cT] 141)).cell? ⟨w2.heap.size, o, none⟩ := fun o => hb.cell (p := ⟨w2.heap.size, o, none⟩) (by simp)
    refine ⟨?_, ?_, ?_⟩ <;> (rw [e, World.cell?_alloc_mark]; rfl))
  have HT0 := Lib.hid (HT.out _ (Below.refl _ _).drew)
  go_wp2_with fail
  go_region_held3 (fun w' => w'.cell? ⟨w2.heap.size, 0, none⟩ = some (.int .i64 12) ∧ w'.cell? ⟨w2.heap.size, 1, none⟩ = some (.slice (some ⟨g, 0, none⟩) 7 cN) ∧ w'.cell? ⟨w2.heap.size, 2, none⟩ = some (.slice aT 0 cT))
    (first
      | exact HT0.out
      | exact HT1.out)
    (first
      | (go_at_call 64; with_reducible refine (HRd.out _ HBR.out.drew).mono ?_; rintro e w3 ⟨rfl, hb3⟩
         have HB3 : Hid (Below w2.heap.size w2 w3) := Lib.hid (HBR.out.drew.trans (hb3.mono HBR.out.drew.size))
         have HT1 := Lib.hid (HT.out w3 ((Below.refl _ _).drew.trans (hb3.mono (by simp [World.drew]))))
         clear hb3))
  all_goals
    clear HT0 HT HRd HBR
    go_wp2_with fail
    have HBA : Hid (Below w2.heap.size w2 (w3.alloc (.cells #[.int .i64 0, .int .i64 0, .int .i64 0, .int .i64 0, .int .i64 0, .int .i64 0] 92)).drew) := Lib.hid (HB3.out.alloc HB3.out.size _).drew
    have HSA := Lib.hid (HS.out _ HB3.out.drew)
    have HSB := Lib.hid (HS.out _ HBA.out)
    go_cut [12, 10] (fun p v wx => ∃ g6, p = .pointer (some ⟨g6, 0, none⟩) ∧ v = .bool true ∧ w2.heap.size ≤ g6 ∧ g6 < wx.heap.size ∧ wx.rangeAt g6 0 [.int .i64 kp, .int .i64 kq, .int .i64 t0, .int .i64 t1, .int .i64 t2, .int .i64 t3] ∧ Below w2.heap.size w2 wx)
    case first =>
      go_region_held3 (fun w' => w'.cell? ⟨g, 1, none⟩ = some (.int .i64 kp) ∧ w'.cell? ⟨g, 2, none⟩ = some (.int .i64 kq))
        (first
          | with_reducible exact HSA.out
          | with_reducible exact HSB.out
          | with_reducible exact HSC.out
          | with_reducible exact HSD.out
          | with_reducible exact HSE.out
          | exact HSD.out
          | (trace_state; fail))
        (first
          | (go_at_call 53; with_reducible refine (HKp.out _ _ _ (by first | rfl | exact if_neg hne2) (by rfl) HB3.out.drew).mono ?_; rintro e w4 ⟨rfl, hb4⟩
             have HB4 : Hid (Below w2.heap.size w2 w4) := Lib.hid (HB3.out.drew.trans (hb4.mono HB3.out.drew.size))
             have HSC := Lib.hid (HS.out _ HB4.out)
             have HSD := Lib.hid (HS.out _ (HB4.out.alloc HB4.out.size (.cells #[.int .i64 kp, .int .i64 kq, .int .i64 t0, .int .i64 t1, .int .i64 t2, .int .i64 t3] 92)))
             have HSE := Lib.hid (HS.out _ (HB4.out.alloc HB4.out.size (.cells #[.int .i64 0, .int .i64 0, .int .i64 0, .int .i64 0, .int .i64 0, .int .i64 0] 92)))
             clear hb4)
          | (go_at_call 53; with_reducible refine (HKp.out _ _ _ (by first | rfl | exact if_neg hne2) (by rfl) HBA.out).mono ?_; rintro e w4 ⟨rfl, hb4⟩
             have HB4 : Hid (Below w2.heap.size w2 w4) := Lib.hid (HBA.out.trans (hb4.mono HBA.out.size))
             have HL4 : Hid (w3.heap.size < (w4.setCells w3.heap.size 0 [.int .i64 kp, .int .i64 kq, .int .i64 t0, .int .i64 t1, .int .i64 t2, .int .i64 t3]).heap.size) := Lib.hid (by have := hb4.size; simp [World.drew] at this; simp [World.setCells]; omega)
             have hz6 : w4.heap[w3.heap.size]? = some (.cells #[.int .i64 0, .int .i64 0, .int .i64 0, .int .i64 0, .int .i64 0, .int .i64 0] 92 (0, 0)) := (hb4.block w3.heap.size (by simp [World.drew])).trans (heap_alloc_new w3 _)
             obtain ⟨m0, m1, m2, m3, m4, m5, fz, ht⟩ := six hz6
             have HT6 := Lib.hid ht
             have HSC := Lib.hid (HS.out _ HB4.out)
             have HBD : Hid (Below w2.heap.size w2 (w4.setCells w3.heap.size 0 [.int .i64 kp, .int .i64 kq, .int .i64 t0, .int .i64 t1, .int .i64 t2, .int .i64 t3])) := Lib.hid (HB4.out.trans (((But.refl [w3.heap.size] w4).sets w3.heap.size 0 [.int .i64 kp, .int .i64 kq, .int .i64 t0, .int .i64 t1, .int .i64 t2, .int .i64 t3] (.inl (by simp))).to_below (by intro x hx; simp at hx; subst hx; exact HB3.out.size) HB4.out.size))
             have HSD := Lib.hid (HS.out _ HBD.out)
             clear hb4 hz6 ht))
      all_goals
        go_wp2_with fail
        go_meet
        first
          | exact ⟨w3.heap.size, rfl, rfl, HB3.out.size, HL4.out, World.rangeAt_setCells_same _ _ 0 [.int .i64 kp, .int .i64 kq, .int .i64 t0, .int .i64 t1, .int .i64 t2, .int .i64 t3] HT6.out, HBD.out⟩
          | exact ⟨w4.heap.size, rfl, rfl, HB4.out.size, by simp, row6 (heap_alloc_new w4 _), HB4.out.alloc HB4.out.size _⟩
          | trace_state
    case rest =>
      obtain ⟨g6, rfl, rfl, hge, hlt, hr6, hbc⟩ := hcut
      have HBc := Lib.hid hbc
      have n0 : wc.cell? ⟨g6, 0, none⟩ = some (.int .i64 kp) := hr6 0 _ rfl
      have n1 : wc.cell? ⟨g6, 1, none⟩ = some (.int .i64 kq) := hr6 1 _ rfl
      have n2 : wc.cell? ⟨g6, 2, none⟩ = some (.int .i64 t0) := hr6 2 _ rfl
      have n3 : wc.cell? ⟨g6, 3, none⟩ = some (.int .i64 t1) := hr6 3 _ rfl
      have n4 : wc.cell? ⟨g6, 4, none⟩ = some (.int .i64 t2) := hr6 4 _ rfl
      have n5 : wc.cell? ⟨g6, 5, none⟩ = some (.int .i64 t3) := hr6 5 _ rfl
      have hzc : wc.heap[w.heap.size]? = some (.cells #[.nilIface, .int .i64 0, .int .i64 0, .int .i64 0, .int .i64 0, .int .i64 0, .int .i64 0] 98 (0, 0)) := (hbc.block _ HL2.out).trans HZ2.out
      obtain ⟨m0, m1, m2, m3, m4, m5, m6, fz, ht⟩ := seven hzc
      have HT7 := Lib.hid ht
      have HE : Hid (Below w.heap.size w wc) := Lib.hid (HW2.out.trans (hbc.mono HW2.out.size))
      clear hge hlt hr6 hbc hzc ht
      go_wp2
      refine ret_rec rfl (.bool true) rfl rfl rfl (store7' HT7.out (.iface 115 (.agg #[.int .i64 b])) (.int .i64 kp) (.int .i64 kq) (.int .i64 t0) (.int .i64 t1) (.int .i64 t2) (.int .i64 t3)) ⟨rfl, ?_⟩
      exact HE.out.trans (((But.refl [w.heap.size] wc).sets w.heap.size 0 [.iface 115 (.agg #[.int .i64 b]), .int .i64 kp, .int .i64 kq, .int .i64 t0, .int .i64 t1, .int .i64 t2, .int .i64 t3] (.inl (by simp))).to_below (by simp) HE.out.size)

set_option maxHeartbeats 4000000 in
theorem read_note (w : World) (q : CacheC w qB lB N nb mE k)  (kp kq t0 t1 t2 t3 : Int) (hnb : nb ≤ 32) (hd : MayD nb (.note)) (hk : MayK ⟨kp, kq, t0, t1, t2, t3⟩) :
    Calls Tryz.prog 43 #[.pointer (some ⟨qB, 0, none⟩), .string (txQ (.note) ⟨kp, kq, t0, t1, t2, t3⟩)] w fun e w' => e = .returned (.tuple #[.agg #[.iface 124 (.agg #[]), .int .i64 kp, .int .i64 kq, .int .i64 t0, .int .i64 t1, .int .i64 t2, .int .i64 t3], .bool true]) ∧ Below w.heap.size w w' := by
  have hmay := recQ_may hd hnb hk
  have hsz := txQ_size (k := ⟨kp, kq, t0, t1, t2, t3⟩) hd hnb
  obtain ⟨s, hs⟩ : ∃ s, s = txQ (.note) ⟨kp, kq, t0, t1, t2, t3⟩ := ⟨_, rfl⟩
  rw [← hs] at hsz ⊢
  have kc := conv_str (w.alloc (.cells #[.nilIface, .int .i64 0, .int .i64 0, .int .i64 0, .int .i64 0, .int .i64 0, .int .i64 0] 98)) s
  have HD : Hid (Calls Tryz.prog 63 #[.slice (some ⟨(w.alloc (.cells #[.nilIface, .int .i64 0, .int .i64 0, .int .i64 0, .int .i64 0, .int .i64 0, .int .i64 0] 98)).heap.size, 0, none⟩) s.size (grownCap (w.alloc (.cells #[.nilIface, .int .i64 0, .int .i64 0, .int .i64 0, .int .i64 0, .int .i64 0, .int .i64 0] 98)) s.size 0 5)] (Lib.bytesWorld (w.alloc (.cells #[.nilIface, .int .i64 0, .int .i64 0, .int .i64 0, .int .i64 0, .int .i64 0, .int .i64 0] 98)) 5 s) fun e w' => ∃ er aN cN aT cT, e = .returned (.tuple #[.agg #[.int .i64 13, .slice aN 6 cN, .slice aT 0 cT], .int .i64 er]) ∧
      C.Row w' aN 6 cN (C.i64s [kp, kq, t0, t1, t2, t3]) ∧ C.Row w' aT 0 cT (C.strs []) ∧ (∀ b o, aN = some ⟨b, o, none⟩ → o = 0) ∧ (∀ b o, aT = some ⟨b, o, none⟩ → o = 0) ∧ Below (w.alloc (.cells #[.nilIface, .int .i64 0, .int .i64 0, .int .i64 0, .int .i64 0, .int .i64 0, .int .i64 0] 98)).heap.size (w.alloc (.cells #[.nilIface, .int .i64 0, .int .i64 0, .int .i64 0, .int .i64 0, .int .i64 0, .int .i64 0] 98)) w') := Lib.hid (dec_q (w.alloc (.cells #[.nilIface, .int .i64 0, .int .i64 0, .int .i64 0, .int .i64 0, .int .i64 0, .int .i64 0] 98)) s (.note) ⟨kp, kq, t0, t1, t2, t3⟩ hs hmay.1 hmay.2 (by omega))
  have hz0 : (w.alloc (.cells #[.nilIface, .int .i64 0, .int .i64 0, .int .i64 0, .int .i64 0, .int .i64 0, .int .i64 0] 98)).heap.size = w.heap.size + 1 := by simp
  rw [hz0] at HD kc
  have HZ : Hid (∀ w', Below (w.heap.size + 1) (w.alloc (.cells #[.nilIface, .int .i64 0, .int .i64 0, .int .i64 0, .int .i64 0, .int .i64 0, .int .i64 0] 98)) w' → Below w.heap.size w w' ∧ w'.heap[w.heap.size]? = some (.cells #[.nilIface, .int .i64 0, .int .i64 0, .int .i64 0, .int .i64 0, .int .i64 0, .int .i64 0] 98 (0, 0))) := Lib.hid (fun w' hb => ⟨((Below.refl w.heap.size w).alloc (Nat.le_refl _) _).trans (hb.mono (by omega)), (hb.block _ (by omega)).trans (heap_alloc_new w _)⟩)
  have HQ : Hid (∀ w', Below w.heap.size w w' → CacheC w' qB lB N nb mE k) := Lib.hid (fun w' hb => q.below hb q.lt)
  have HKo : Hid (keepOk kp kq [t0, t1, t2, t3]) := Lib.hid ⟨hk.p, hk.q, rfl, by intro x hx; simp at hx; rcases hx with rfl | rfl | rfl | rfl; exact hk.a0; exact hk.a1; exact hk.a2; exact hk.a3⟩
  have Hd := Lib.hid hd
  have hb1 : Below (w.heap.size + 1) (w.alloc (.cells #[.nilIface, .int .i64 0, .int .i64 0, .int .i64 0, .int .i64 0, .int .i64 0, .int .i64 0] 98)) (Lib.bytesWorld (w.alloc (.cells #[.nilIface, .int .i64 0, .int .i64 0, .int .i64 0, .int .i64 0, .int .i64 0, .int .i64 0] 98)) 5 s) := by have := bytes_below (w.alloc (.cells #[.nilIface, .int .i64 0, .int .i64 0, .int .i64 0, .int .i64 0, .int .i64 0, .int .i64 0] 98)) s; rwa [hz0] at this
  have HB1 := Lib.hid hb1
  generalize grownCap (w.alloc (.cells #[.nilIface, .int .i64 0, .int .i64 0, .int .i64 0, .int .i64 0, .int .i64 0, .int .i64 0] 98)) s.size 0 5 = cp at *
  generalize Lib.bytesWorld (w.alloc (.cells #[.nilIface, .int .i64 0, .int .i64 0, .int .i64 0, .int .i64 0, .int .i64 0, .int .i64 0] 98)) 5 s = w1 at *
  clear q hmay hsz hs hd hk hb1 hz0
  go_enter Tryz.func43, Tryz.ntmps43
  go_wp2_with fail
  refine HD.out.mono ?_
  rintro e w2 ⟨er, aN, cN, aT, cT, rfl, hrN, hrT, hoN, hoT, hb2⟩
  obtain ⟨g, o, rfl, hg, hcN, hcM, hcells⟩ := row_all hrN (by omega)
  obtain rfl : o = 0 := hoN g o rfl
  have HB2 := Lib.hid hb2
  have hw2 := HZ.out w2 hb2
  have HW2 := Lib.hid hw2.1
  have HZ2 := Lib.hid hw2.2
  have HL2 : Hid (w.heap.size < w2.heap.size) := Lib.hid (lt_of_heap hw2.2)
  have Hg := Lib.hid (And.intro hg hcM)
  have c_kp : w2.cell? ⟨g, 0, none⟩ = some (.int .i64 kp) := by have := hcells 0 _ rfl; rwa [Nat.zero_add] at this
  have c_kq : w2.cell? ⟨g, 1, none⟩ = some (.int .i64 kq) := by have := hcells 1 _ rfl; rwa [Nat.zero_add] at this
  have c_t0 : w2.cell? ⟨g, 2, none⟩ = some (.int .i64 t0) := by have := hcells 2 _ rfl; rwa [Nat.zero_add] at this
  have c_t1 : w2.cell? ⟨g, 3, none⟩ = some (.int .i64 t1) := by have := hcells 3 _ rfl; rwa [Nat.zero_add] at this
  have c_t2 : w2.cell? ⟨g, 4, none⟩ = some (.int .i64 t2) := by have := hcells 4 _ rfl; rwa [Nat.zero_add] at this
  have c_t3 : w2.cell? ⟨g, 5, none⟩ = some (.int .i64 t3) := by have := hcells 5 _ rfl; rwa [Nat.zero_add] at this
  have hcI : (6 : Int) ≤ (cN : Int) := by omega
  have hne0 : ¬ cN = 0 := by omega
  have hcI2 : (0 : Int) ≤ (cN : Int) := by omega
  have hne2 : ¬ cN = 2 := by omega
  have hcT := Lib.hid hcN
  have HRd : Hid (∀ w', Below w2.heap.size w2 w' → Calls Tryz.prog 64 #[.pointer (some ⟨qB, 0, none⟩), .int .i64 13, .slice (some ⟨g, 0, none⟩) 0 cN, .slice aT 0 cT] w' fun e w'' => e = .returned (.tuple #[.iface 124 (.agg #[]), .bool true]) ∧ Below w'.heap.size w' w'') := Lib.hid (fun w' hb => by
    have hqc := HQ.out w' (hw2.1.trans (hb.mono hw2.1.size))
    have e : ∀ o, w'.cell? ⟨g, o, none⟩ = w2.cell? ⟨g, o, none⟩ := fun o => hb.cell (p := ⟨g, o, none⟩) hg
    refine (deed_note w' (some ⟨g, 0, none⟩) cN cT aT).mono ?_
    rintro e w'' ⟨rfl, rfl⟩
    exact ⟨rfl, Below.refl _ _⟩)
  have HKp : Hid (∀ (w' : World) (a' : Option Addr) (c' : Nat), a' = some ⟨g, 2, none⟩ → c' = cN - 2 → Below w2.heap.size w2 w' → Calls Tryz.prog 53 #[.agg #[.int .i64 kp, .int .i64 kq], .slice a' 4 c'] w' fun e w'' => e = .returned (.tuple #[.agg #[.int .i64 kp, .int .i64 kq, .int .i64 t0, .int .i64 t1, .int .i64 t2, .int .i64 t3], .bool true]) ∧ Below w'.heap.size w' w'') := Lib.hid (fun w' a' c' ha hc' hb => by
    subst ha hc'
    have e : ∀ o, w'.cell? ⟨g, o, none⟩ = w2.cell? ⟨g, o, none⟩ := fun o => hb.cell (p := ⟨g, o, none⟩) hg
    refine keeping_yes w' kp kq (some ⟨g, 2, none⟩) 4 (cN - 2) [t0, t1, t2, t3] ⟨rfl, by omega, by omega, .inr ⟨g, 2, rfl, Nat.lt_of_lt_of_le hg hb.size, fun i hi => ?_⟩⟩ HKo.out
    match i, hi with
    | 0, _ => exact (e _).trans c_t0
    | 1, _ => exact (e _).trans c_t1
    | 2, _ => exact (e _).trans c_t2
    | 3, _ => exact (e _).trans c_t3)
  have HS : Hid (∀ w', Below w2.heap.size w2 w' → w'.cell? ⟨g, 0, none⟩ = some (.int .i64 kp) ∧ w'.cell? ⟨g, 1, none⟩ = some (.int .i64 kq)) := Lib.hid (fun w' hb => by
    have e : ∀ o, w'.cell? ⟨g, o, none⟩ = w2.cell? ⟨g, o, none⟩ := fun o => hb.cell (p := ⟨g, o, none⟩) hg
    exact ⟨(e _).trans c_kp, (e _).trans c_kq⟩)
  have hbR := (Below.refl w2.heap.size w2).alloc (Nat.le_refl _) (.cells #[.int .i64 13, .slice (some ⟨g, 0, none⟩) 6 cN, .slice aT 0 cT] 141)
  have HBR := Lib.hid hbR
  clear hrN hrT hoN hoT hb2 hcells hg hcN hcM hbR
  have HT : Hid (∀ w', Below (w2.heap.size + 1) (w2.alloc (.cells #[.int .i64 13, .slice (some ⟨g, 0, none⟩) 6 cN, .slice aT 0 cT] 141)) w' → w'.cell? ⟨w2.heap.size, 0, none⟩ = some (.int .i64 13) ∧ w'.cell? ⟨w2.heap.size, 1, none⟩ = some (.slice (some ⟨g, 0, none⟩) 6 cN) ∧ w'.cell? ⟨w2.heap.size, 2, none⟩ = some (.slice aT 0 cT)) := Lib.hid (fun w' hb => by
    have e : ∀ o, w'.cell? ⟨w2.heap.size, o, none⟩ = (w2.alloc (.cells #[.int .i64 13, .slice (some ⟨g, 0, none⟩) 6 cN, .slice aT 0 cT] 141)).cell? ⟨w2.heap.size, o, none⟩ := fun o => hb.cell (p := ⟨w2.heap.size, o, none⟩) (by simp)
    refine ⟨?_, ?_, ?_⟩ <;> (rw [e, World.cell?_alloc_mark]; rfl))
  have HT0 := Lib.hid (HT.out _ (Below.refl _ _).drew)
  go_wp2_with fail
  go_region_held3 (fun w' => w'.cell? ⟨w2.heap.size, 0, none⟩ = some (.int .i64 13) ∧ w'.cell? ⟨w2.heap.size, 1, none⟩ = some (.slice (some ⟨g, 0, none⟩) 6 cN) ∧ w'.cell? ⟨w2.heap.size, 2, none⟩ = some (.slice aT 0 cT))
    (first
      | exact HT0.out
      | exact HT1.out)
    (first
      | (go_at_call 64; with_reducible refine (HRd.out _ HBR.out.drew).mono ?_; rintro e w3 ⟨rfl, hb3⟩
         have HB3 : Hid (Below w2.heap.size w2 w3) := Lib.hid (HBR.out.drew.trans (hb3.mono HBR.out.drew.size))
         have HT1 := Lib.hid (HT.out w3 ((Below.refl _ _).drew.trans (hb3.mono (by simp [World.drew]))))
         clear hb3))
  all_goals
    clear HT0 HT HRd HBR
    go_wp2_with fail
    have HBA : Hid (Below w2.heap.size w2 (w3.alloc (.cells #[.int .i64 0, .int .i64 0, .int .i64 0, .int .i64 0, .int .i64 0, .int .i64 0] 92)).drew) := Lib.hid (HB3.out.alloc HB3.out.size _).drew
    have HSA := Lib.hid (HS.out _ HB3.out.drew)
    have HSB := Lib.hid (HS.out _ HBA.out)
    go_cut [12, 10] (fun p v wx => ∃ g6, p = .pointer (some ⟨g6, 0, none⟩) ∧ v = .bool true ∧ w2.heap.size ≤ g6 ∧ g6 < wx.heap.size ∧ wx.rangeAt g6 0 [.int .i64 kp, .int .i64 kq, .int .i64 t0, .int .i64 t1, .int .i64 t2, .int .i64 t3] ∧ Below w2.heap.size w2 wx)
    case first =>
      go_region_held3 (fun w' => w'.cell? ⟨g, 0, none⟩ = some (.int .i64 kp) ∧ w'.cell? ⟨g, 1, none⟩ = some (.int .i64 kq))
        (first
          | with_reducible exact HSA.out
          | with_reducible exact HSB.out
          | with_reducible exact HSC.out
          | with_reducible exact HSD.out
          | with_reducible exact HSE.out
          | exact HSD.out
          | (trace_state; fail))
        (first
          | (go_at_call 53; with_reducible refine (HKp.out _ _ _ (by first | rfl | exact if_neg hne2) (by rfl) HB3.out.drew).mono ?_; rintro e w4 ⟨rfl, hb4⟩
             have HB4 : Hid (Below w2.heap.size w2 w4) := Lib.hid (HB3.out.drew.trans (hb4.mono HB3.out.drew.size))
             have HSC := Lib.hid (HS.out _ HB4.out)
             have HSD := Lib.hid (HS.out _ (HB4.out.alloc HB4.out.size (.cells #[.int .i64 kp, .int .i64 kq, .int .i64 t0, .int .i64 t1, .int .i64 t2, .int .i64 t3] 92)))
             have HSE := Lib.hid (HS.out _ (HB4.out.alloc HB4.out.size (.cells #[.int .i64 0, .int .i64 0, .int .i64 0, .int .i64 0, .int .i64 0, .int .i64 0] 92)))
             clear hb4)
          | (go_at_call 53; with_reducible refine (HKp.out _ _ _ (by first | rfl | exact if_neg hne2) (by rfl) HBA.out).mono ?_; rintro e w4 ⟨rfl, hb4⟩
             have HB4 : Hid (Below w2.heap.size w2 w4) := Lib.hid (HBA.out.trans (hb4.mono HBA.out.size))
             have HL4 : Hid (w3.heap.size < (w4.setCells w3.heap.size 0 [.int .i64 kp, .int .i64 kq, .int .i64 t0, .int .i64 t1, .int .i64 t2, .int .i64 t3]).heap.size) := Lib.hid (by have := hb4.size; simp [World.drew] at this; simp [World.setCells]; omega)
             have hz6 : w4.heap[w3.heap.size]? = some (.cells #[.int .i64 0, .int .i64 0, .int .i64 0, .int .i64 0, .int .i64 0, .int .i64 0] 92 (0, 0)) := (hb4.block w3.heap.size (by simp [World.drew])).trans (heap_alloc_new w3 _)
             obtain ⟨m0, m1, m2, m3, m4, m5, fz, ht⟩ := six hz6
             have HT6 := Lib.hid ht
             have HSC := Lib.hid (HS.out _ HB4.out)
             have HBD : Hid (Below w2.heap.size w2 (w4.setCells w3.heap.size 0 [.int .i64 kp, .int .i64 kq, .int .i64 t0, .int .i64 t1, .int .i64 t2, .int .i64 t3])) := Lib.hid (HB4.out.trans (((But.refl [w3.heap.size] w4).sets w3.heap.size 0 [.int .i64 kp, .int .i64 kq, .int .i64 t0, .int .i64 t1, .int .i64 t2, .int .i64 t3] (.inl (by simp))).to_below (by intro x hx; simp at hx; subst hx; exact HB3.out.size) HB4.out.size))
             have HSD := Lib.hid (HS.out _ HBD.out)
             clear hb4 hz6 ht))
      all_goals
        go_wp2_with fail
        go_meet
        first
          | exact ⟨w3.heap.size, rfl, rfl, HB3.out.size, HL4.out, World.rangeAt_setCells_same _ _ 0 [.int .i64 kp, .int .i64 kq, .int .i64 t0, .int .i64 t1, .int .i64 t2, .int .i64 t3] HT6.out, HBD.out⟩
          | exact ⟨w4.heap.size, rfl, rfl, HB4.out.size, by simp, row6 (heap_alloc_new w4 _), HB4.out.alloc HB4.out.size _⟩
          | trace_state
    case rest =>
      obtain ⟨g6, rfl, rfl, hge, hlt, hr6, hbc⟩ := hcut
      have HBc := Lib.hid hbc
      have n0 : wc.cell? ⟨g6, 0, none⟩ = some (.int .i64 kp) := hr6 0 _ rfl
      have n1 : wc.cell? ⟨g6, 1, none⟩ = some (.int .i64 kq) := hr6 1 _ rfl
      have n2 : wc.cell? ⟨g6, 2, none⟩ = some (.int .i64 t0) := hr6 2 _ rfl
      have n3 : wc.cell? ⟨g6, 3, none⟩ = some (.int .i64 t1) := hr6 3 _ rfl
      have n4 : wc.cell? ⟨g6, 4, none⟩ = some (.int .i64 t2) := hr6 4 _ rfl
      have n5 : wc.cell? ⟨g6, 5, none⟩ = some (.int .i64 t3) := hr6 5 _ rfl
      have hzc : wc.heap[w.heap.size]? = some (.cells #[.nilIface, .int .i64 0, .int .i64 0, .int .i64 0, .int .i64 0, .int .i64 0, .int .i64 0] 98 (0, 0)) := (hbc.block _ HL2.out).trans HZ2.out
      obtain ⟨m0, m1, m2, m3, m4, m5, m6, fz, ht⟩ := seven hzc
      have HT7 := Lib.hid ht
      have HE : Hid (Below w.heap.size w wc) := Lib.hid (HW2.out.trans (hbc.mono HW2.out.size))
      clear hge hlt hr6 hbc hzc ht
      go_wp2
      refine ret_rec rfl (.bool true) rfl rfl rfl (store7' HT7.out (.iface 124 (.agg #[])) (.int .i64 kp) (.int .i64 kq) (.int .i64 t0) (.int .i64 t1) (.int .i64 t2) (.int .i64 t3)) ⟨rfl, ?_⟩
      exact HE.out.trans (((But.refl [w.heap.size] wc).sets w.heap.size 0 [.iface 124 (.agg #[]), .int .i64 kp, .int .i64 kq, .int .i64 t0, .int .i64 t1, .int .i64 t2, .int .i64 t3] (.inl (by simp))).to_below (by simp) HE.out.size)

end Q
end Go.Proofs.YtmcalgnpinolmaaGreat
