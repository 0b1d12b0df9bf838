/-
  PROVED: nothing of an elder epoch is taken, and nothing that was taken is taken again. CONDITIONS: none (any version; epochs and numbers, of which up to 100 are gone through).
-/
import Derived.Test.YtcnmkojlledipaaMrRef
import Derived.BigQuiet
import Derived.Deep.RegionHeld3
namespace Go.Proofs.Ytcnmkojlledipaa.mirrorElder
open Go.ChangeShapes Go.WideShapes Go.ChangeAt Go.RowKit Go.Joins
open Go.ChangeMaps (open_string shut_string)
set_option linter.unusedVariables false
set_option linter.unusedSimpArgs false
set_option maxRecDepth 20000

open Mr

set_option maxHeartbeats 4000000 in
theorem walk (e0 s0 : Int) (a1 : Option Addr) (n1 c1 : Nat) (l1 : List Int) (a2 : Option Addr) (n2 c2 : Nat) (l2 : List Int) (w : World) (w0 : Mr.In64 e0 ∧ Mr.In64 s0) (w1 : Mr.NR .i64 w a1 n1 c1 l1) (w2 : Mr.NR .i64 w a2 n2 c2 l2) :
    Calls Try.prog 6 #[.agg #[.int .i64 e0, .int .i64 s0], .slice a1 n1 c1, .slice a2 n2 c2] w fun e w' => e = .returned (.bool true) ∧ Below w.heap.size w w' := by
  have HA := Lib.hid (fun w' => awake_any w')
  have HR1 := Lib.hid w1
  have HR2 := Lib.hid w2
  have HB0 := Lib.hid ((Below.refl w.heap.size w).alloc (Nat.le_refl _) (.cells #[.int .i64 e0, .int .i64 s0] 44))
  have HV0 := Lib.hid (heap_alloc_new w (.cells #[.int .i64 e0, .int .i64 s0] 44))
  have hc1 : n1 ≤ 9223372036854775807 := by have := w1.2.1; have := w1.2.2.1; simp only [maxLen] at *; omega
  have hc2 : n2 ≤ 9223372036854775807 := by have := w2.2.1; have := w2.2.2.1; simp only [maxLen] at *; omega
  clear w1 w2
  by_cases hneg : e0 < 0 ∨ s0 < 0
  · rcases hneg with hn | hn
    all_goals
      clear w0
      first
        | (have hd : decide (e0 < 0) = true := by simpa using hn
           skip)
        | (by_cases he : e0 < 0
           case' pos => have hd : decide (e0 < 0) = true := by simpa using he
           case' neg => have hd : decide (e0 < 0) = false := by simpa using he)
    all_goals
      go_enter Try.func6, Try.ntmps6
      go_wp2_with (go_at_call 9; with_reducible refine (HA.out _).mono ?_; rintro e wa ⟨rfl, hb⟩
                   have HB := Lib.hid (HB0.out.trans (hb.mono HB0.out.size))
                   have HV := Lib.hid ((hb.block _ (lt_of_heap HV0.out)).trans HV0.out)
                   have q0 : wa.cell? ⟨w.heap.size, 0, none⟩ = some (.int .i64 e0) := by simp [World.cell?, HV.out]
                   have q1 : wa.cell? ⟨w.heap.size, 1, none⟩ = some (.int .i64 s0) := by simp [World.cell?, HV.out]
                   clear hb)
      go_ret
      exact ⟨rfl, HB.out⟩
  · have hE : 0 ≤ e0 := by omega
    have hS : 0 ≤ s0 := by omega
    have hd0 : decide (e0 < 0) = false := by simp; omega
    have hd1 : decide (s0 < 0) = false := by simp; omega
    have HI := Lib.hid (And.intro hE (And.intro hS (And.intro w0.2 w0.1)))
    clear hneg w0
    go_enter Try.func6, Try.ntmps6
    go_wp2_with (go_at_call 9; with_reducible refine (HA.out _).mono ?_; rintro e wa ⟨rfl, hb⟩
                 have HB := Lib.hid (HB0.out.trans (hb.mono HB0.out.size))
                 have HV := Lib.hid ((hb.block _ (lt_of_heap HV0.out)).trans HV0.out)
                 have q0 : wa.cell? ⟨w.heap.size, 0, none⟩ = some (.int .i64 e0) := by simp [World.cell?, HV.out]
                 have q1 : wa.cell? ⟨w.heap.size, 1, none⟩ = some (.int .i64 s0) := by simp [World.cell?, HV.out]
                 clear hb)
    clear HA HB0 HV0
    go_loopw [7] (fun i wr => ∃ (k : Nat) (le ls : Int), k ≤ n1 ∧ k ≤ n2 ∧ k ≤ 100 ∧ i = .int .i64 (k : Int) ∧ (0 ≤ le ∧ 0 ≤ ls ∧ Mr.In64 ls ∧ Mr.In64 le) ∧ wr.heap[w.heap.size]? = some (.cells #[.int .i64 le, .int .i64 ls] 44 (0, 0)) ∧ Below w.heap.size w wr) (fun i _ => 100 - (intOf i).toNat)
    case atStart => exact ⟨0, e0, s0, by omega, by omega, by omega, rfl, HI.out, HV.out, HB.out⟩
    case round =>
      obtain ⟨k, le, ls, hk1, hk2, hk3, rfl, hL, hVr, hBr⟩ := hrel
      clear HB HV q0 q1 HI hd0 hd1 hE hS
      have HVr := Lib.hid hVr
      have HBr := Lib.hid hBr
      have HL := Lib.hid hL
      clear hVr hBr hL
      by_cases hlt : k < n1 ∧ k < n2 ∧ k < 100
      · obtain ⟨h1, h2, h3⟩ := hlt
        have i1 : (k : Int) < (n1 : Int) := by omega
        have i2 : (k : Int) < (n2 : Int) := by omega
        have i3 : (k : Int) < 100 := by omega
        obtain ⟨ze, hze⟩ : ∃ z, l1[k]? = some z := ⟨_, List.getElem?_eq_getElem (by have := HR1.out.1; omega)⟩
        obtain ⟨zs, hzs⟩ : ∃ z, l2[k]? = some z := ⟨_, List.getElem?_eq_getElem (by have := HR2.out.1; omega)⟩
        have HZ := Lib.hid (And.intro (wf_i64 (HR1.out.2.2.2.1 ze (List.mem_of_getElem? hze))) (wf_i64 (HR2.out.2.2.2.1 zs (List.mem_of_getElem? hzs))))
        obtain ⟨b1, o1, rfl, hb1, g1⟩ := HR1.out.at hze
        obtain ⟨b2, o2, rfl, hb2, g2⟩ := HR2.out.at hzs
        have g1' : wr.cell? ⟨b1, o1 + k, none⟩ = some (.int .i64 ze) := by rw [HBr.out.cell (p := ⟨b1, o1 + k, none⟩) hb1]; exact g1
        have g2' : wr.cell? ⟨b2, o2 + k, none⟩ = some (.int .i64 zs) := by rw [HBr.out.cell (p := ⟨b2, o2 + k, none⟩) hb2]; exact g2
        have r0 : wr.cell? ⟨w.heap.size, 0, none⟩ = some (.int .i64 le) := by simp [World.cell?, HVr.out]
        have r1 : wr.cell? ⟨w.heap.size, 1, none⟩ = some (.int .i64 ls) := by simp [World.cell?, HVr.out]
        clear g1 g2 hze hzs h1 h2 h3
        have hW : ze < le ∨ (ze = le ∧ zs ≤ ls) ∨ (ze = le ∧ zs = ls + 1) ∨ (ze = le ∧ ls + 1 < zs) ∨ (le < ze ∧ zs = 1) ∨ (le < ze ∧ zs ≠ 1) := by omega
        have hLp := HL.out
        rcases hW with hc | hc | hc | hc | hc | hc
        · have HN : Hid (∀ w', Calls Try.prog 22 #[.agg #[.int .i64 le, .int .i64 ls], .int .i64 ze, .int .i64 zs] w' fun e w'' => e = .returned (.int .i64 0) ∧ Below w'.heap.size w' w'') := Lib.hid fun w' => by
                    have := next_any w' le ls ze zs HL.out.2.2.1.1 HZ.out.2.2
                    rwa [next_no (by omega) (by omega)] at this
          have hd : decide (ze < le) = true := by simpa using hc
          clear hc hLp
          go_wp2
          go_quiet (fail)
          go_wp2_with (
                  go_at_call 22; with_reducible refine (HN.out _).mono ?_; rintro e v1 ⟨rfl, hb⟩
                  have B1 : Hid (Below wr.heap.size wr v1) := Lib.hid (((Below.refl wr.heap.size wr).drewB nq).trans hb)
                  have V1 := Lib.hid ((B1.out.block _ (lt_of_heap HVr.out)).trans HVr.out)
                  have p0 : v1.cell? ⟨w.heap.size, 0, none⟩ = some (.int .i64 le) := by simp [World.cell?, V1.out]
                  have p1 : v1.cell? ⟨w.heap.size, 1, none⟩ = some (.int .i64 ls) := by simp [World.cell?, V1.out]
                  clear hb)
          go_roundw
          case rel => exact ⟨k + 1, le, ls, by omega, by omega, by omega, by go_num, HL.out, V1.out, HBr.out.trans (B1.out.mono HBr.out.size)⟩
          case measure => simp [intOf]; omega
        · have HN : Hid (∀ w', Calls Try.prog 22 #[.agg #[.int .i64 le, .int .i64 ls], .int .i64 ze, .int .i64 zs] w' fun e w'' => e = .returned (.int .i64 2) ∧ Below w'.heap.size w' w'') := Lib.hid fun w' => by
                    have := next_any w' le ls ze zs HL.out.2.2.1.1 HZ.out.2.2
                    rwa [next_had (by omega)] at this
          have hd : decide (ze < le) = false := by simp; omega
          clear hc hLp
          go_wp2
          go_quiet (fail)
          go_wp2_with (
                  go_at_call 22; with_reducible refine (HN.out _).mono ?_; rintro e v1 ⟨rfl, hb⟩
                  have B1 : Hid (Below wr.heap.size wr v1) := Lib.hid (((Below.refl wr.heap.size wr).drewB nq).trans hb)
                  have V1 := Lib.hid ((B1.out.block _ (lt_of_heap HVr.out)).trans HVr.out)
                  have p0 : v1.cell? ⟨w.heap.size, 0, none⟩ = some (.int .i64 le) := by simp [World.cell?, V1.out]
                  have p1 : v1.cell? ⟨w.heap.size, 1, none⟩ = some (.int .i64 ls) := by simp [World.cell?, V1.out]
                  clear hb)
          go_roundw
          case rel => exact ⟨k + 1, le, ls, by omega, by omega, by omega, by go_num, HL.out, V1.out, HBr.out.trans (B1.out.mono HBr.out.size)⟩
          case measure => simp [intOf]; omega
        · have HN : Hid (∀ w', Calls Try.prog 22 #[.agg #[.int .i64 le, .int .i64 ls], .int .i64 ze, .int .i64 zs] w' fun e w'' => e = .returned (.int .i64 1) ∧ Below w'.heap.size w' w'') := Lib.hid fun w' => by
                    have := next_any w' le ls ze zs HL.out.2.2.1.1 HZ.out.2.2
                    rwa [next_take (by omega) (by omega)] at this
          have HN2 : Hid (∀ w', Calls Try.prog 22 #[.agg #[.int .i64 ze, .int .i64 zs], .int .i64 ze, .int .i64 zs] w' fun e w'' => e = .returned (.int .i64 2) ∧ Below w'.heap.size w' w'') := Lib.hid fun w' => by
                    have := next_any w' ze zs ze zs HZ.out.2.1 HZ.out.2.2
                    rwa [next_had ⟨rfl, Int.le_refl _⟩] at this
          have hd : decide (ze < le) = false := by simp; omega
          have hd2 : (ze == le) = true := by simpa using hc.1
          have hd3 : decide (zs ≤ ls) = false := by simp; omega
          have hd4 : decide (zs < 1) = false := by simp; omega
          have HT := Lib.hid (show 0 ≤ ze ∧ 0 ≤ zs by omega)
          clear hc hLp
          go_wp2
          go_quiet (fail)
          go_wp2_with (first
             | (
                  go_at_call 22; with_reducible refine (HN.out _).mono ?_; rintro e v1 ⟨rfl, hb⟩
                  have B1 : Hid (Below wr.heap.size wr v1) := Lib.hid (((Below.refl wr.heap.size wr).drewB nq).trans hb)
                  have V1 := Lib.hid ((B1.out.block _ (lt_of_heap HVr.out)).trans HVr.out)
                  have p0 : v1.cell? ⟨w.heap.size, 0, none⟩ = some (.int .i64 le) := by simp [World.cell?, V1.out]
                  have p1 : v1.cell? ⟨w.heap.size, 1, none⟩ = some (.int .i64 ls) := by simp [World.cell?, V1.out]
                  clear hb)
             | (
                  go_at_call 22; with_reducible refine (HN2.out _).mono ?_; rintro e v2 ⟨rfl, hb⟩
                  have B2 : Hid (Below wr.heap.size wr v2) := Lib.hid (B1.out.trans (hb.mono B1.out.size))
                  have V2 := Lib.hid ((B2.out.block _ (lt_of_heap HVr.out)).trans HVr.out)
                  have f0 : v2.frozen? ⟨w.heap.size, 0, none⟩ = false := by simp [World.frozen?, V2.out]
                  have f1 : v2.frozen? ⟨w.heap.size, 1, none⟩ = false := by simp [World.frozen?, V2.out]
                  have p2 : v2.cell? ⟨w.heap.size, 0, none⟩ = some (.int .i64 le) := by simp [World.cell?, V2.out]
                  have p3 : v2.cell? ⟨w.heap.size, 1, none⟩ = some (.int .i64 ls) := by simp [World.cell?, V2.out]
                  clear hb))
          go_roundw
          case rel =>
            refine ⟨k + 1, ze, zs, by omega, by omega, by omega, by go_num, ⟨HT.out.1, HT.out.2, HZ.out.2, HZ.out.1⟩, ?_, ?_⟩
            · simp [World.setCell, Array.getElem?_modify, V2.out]
            · exact ((HBr.out.trans (B2.out.mono HBr.out.size)).setCell (p := ⟨w.heap.size, 0, none⟩) (Nat.le_refl _) _).setCell (p := ⟨w.heap.size, 1, none⟩) (Nat.le_refl _) _
          case measure => simp [intOf]; omega
        · have HN : Hid (∀ w', Calls Try.prog 22 #[.agg #[.int .i64 le, .int .i64 ls], .int .i64 ze, .int .i64 zs] w' fun e w'' => e = .returned (.int .i64 0) ∧ Below w'.heap.size w' w'') := Lib.hid fun w' => by
                    have := next_any w' le ls ze zs HL.out.2.2.1.1 HZ.out.2.2
                    rwa [next_no (by omega) (by omega)] at this
          have hd : decide (ze < le) = false := by simp; omega
          clear hc hLp
          go_wp2
          go_quiet (fail)
          go_wp2_with (
                  go_at_call 22; with_reducible refine (HN.out _).mono ?_; rintro e v1 ⟨rfl, hb⟩
                  have B1 : Hid (Below wr.heap.size wr v1) := Lib.hid (((Below.refl wr.heap.size wr).drewB nq).trans hb)
                  have V1 := Lib.hid ((B1.out.block _ (lt_of_heap HVr.out)).trans HVr.out)
                  have p0 : v1.cell? ⟨w.heap.size, 0, none⟩ = some (.int .i64 le) := by simp [World.cell?, V1.out]
                  have p1 : v1.cell? ⟨w.heap.size, 1, none⟩ = some (.int .i64 ls) := by simp [World.cell?, V1.out]
                  clear hb)
          go_roundw
          case rel => exact ⟨k + 1, le, ls, by omega, by omega, by omega, by go_num, HL.out, V1.out, HBr.out.trans (B1.out.mono HBr.out.size)⟩
          case measure => simp [intOf]; omega
        · have HN : Hid (∀ w', Calls Try.prog 22 #[.agg #[.int .i64 le, .int .i64 ls], .int .i64 ze, .int .i64 zs] w' fun e w'' => e = .returned (.int .i64 1) ∧ Below w'.heap.size w' w'') := Lib.hid fun w' => by
                    have := next_any w' le ls ze zs HL.out.2.2.1.1 HZ.out.2.2
                    rwa [next_take (by omega) (by omega)] at this
          have HN2 : Hid (∀ w', Calls Try.prog 22 #[.agg #[.int .i64 ze, .int .i64 zs], .int .i64 ze, .int .i64 zs] w' fun e w'' => e = .returned (.int .i64 2) ∧ Below w'.heap.size w' w'') := Lib.hid fun w' => by
                    have := next_any w' ze zs ze zs HZ.out.2.1 HZ.out.2.2
                    rwa [next_had ⟨rfl, Int.le_refl _⟩] at this
          have hd : decide (ze < le) = false := by simp; omega
          have hd2 : (ze == le) = false := by rw [beq_eq_false_iff_ne]; omega
          have hd4 : decide (zs < 1) = false := by simp; omega
          have HT := Lib.hid (show 0 ≤ ze ∧ 0 ≤ zs by omega)
          clear hc hLp
          go_wp2
          go_quiet (fail)
          go_wp2_with (first
             | (
                  go_at_call 22; with_reducible refine (HN.out _).mono ?_; rintro e v1 ⟨rfl, hb⟩
                  have B1 : Hid (Below wr.heap.size wr v1) := Lib.hid (((Below.refl wr.heap.size wr).drewB nq).trans hb)
                  have V1 := Lib.hid ((B1.out.block _ (lt_of_heap HVr.out)).trans HVr.out)
                  have p0 : v1.cell? ⟨w.heap.size, 0, none⟩ = some (.int .i64 le) := by simp [World.cell?, V1.out]
                  have p1 : v1.cell? ⟨w.heap.size, 1, none⟩ = some (.int .i64 ls) := by simp [World.cell?, V1.out]
                  clear hb)
             | (
                  go_at_call 22; with_reducible refine (HN2.out _).mono ?_; rintro e v2 ⟨rfl, hb⟩
                  have B2 : Hid (Below wr.heap.size wr v2) := Lib.hid (B1.out.trans (hb.mono B1.out.size))
                  have V2 := Lib.hid ((B2.out.block _ (lt_of_heap HVr.out)).trans HVr.out)
                  have f0 : v2.frozen? ⟨w.heap.size, 0, none⟩ = false := by simp [World.frozen?, V2.out]
                  have f1 : v2.frozen? ⟨w.heap.size, 1, none⟩ = false := by simp [World.frozen?, V2.out]
                  have p2 : v2.cell? ⟨w.heap.size, 0, none⟩ = some (.int .i64 le) := by simp [World.cell?, V2.out]
                  have p3 : v2.cell? ⟨w.heap.size, 1, none⟩ = some (.int .i64 ls) := by simp [World.cell?, V2.out]
                  clear hb))
          go_roundw
          case rel =>
            refine ⟨k + 1, ze, zs, by omega, by omega, by omega, by go_num, ⟨HT.out.1, HT.out.2, HZ.out.2, HZ.out.1⟩, ?_, ?_⟩
            · simp [World.setCell, Array.getElem?_modify, V2.out]
            · exact ((HBr.out.trans (B2.out.mono HBr.out.size)).setCell (p := ⟨w.heap.size, 0, none⟩) (Nat.le_refl _) _).setCell (p := ⟨w.heap.size, 1, none⟩) (Nat.le_refl _) _
          case measure => simp [intOf]; omega
        · have HN : Hid (∀ w', Calls Try.prog 22 #[.agg #[.int .i64 le, .int .i64 ls], .int .i64 ze, .int .i64 zs] w' fun e w'' => e = .returned (.int .i64 0) ∧ Below w'.heap.size w' w'') := Lib.hid fun w' => by
                    have := next_any w' le ls ze zs HL.out.2.2.1.1 HZ.out.2.2
                    rwa [next_no (by omega) (by omega)] at this
          have hd : decide (ze < le) = false := by simp; omega
          clear hc hLp
          go_wp2
          go_quiet (fail)
          go_wp2_with (
                  go_at_call 22; with_reducible refine (HN.out _).mono ?_; rintro e v1 ⟨rfl, hb⟩
                  have B1 : Hid (Below wr.heap.size wr v1) := Lib.hid (((Below.refl wr.heap.size wr).drewB nq).trans hb)
                  have V1 := Lib.hid ((B1.out.block _ (lt_of_heap HVr.out)).trans HVr.out)
                  have p0 : v1.cell? ⟨w.heap.size, 0, none⟩ = some (.int .i64 le) := by simp [World.cell?, V1.out]
                  have p1 : v1.cell? ⟨w.heap.size, 1, none⟩ = some (.int .i64 ls) := by simp [World.cell?, V1.out]
                  clear hb)
          go_roundw
          case rel => exact ⟨k + 1, le, ls, by omega, by omega, by omega, by go_num, HL.out, V1.out, HBr.out.trans (B1.out.mono HBr.out.size)⟩
          case measure => simp [intOf]; omega
      · have hnot : (¬ k < n1) ∨ (k < n1 ∧ ¬ k < n2) ∨ (k < n1 ∧ k < n2 ∧ ¬ k < 100) := by omega
        clear hlt
        rcases hnot with h9 | ⟨h8, h9⟩ | ⟨h7, h8, h9⟩
        · have g1 : decide ((k : Int) < (n1 : Int)) = false := by simpa using h9
          go_wp2
          go_ret
          exact ⟨rfl, HBr.out⟩
        · have g1 : (k : Int) < (n1 : Int) := by omega
          have g2 : decide ((k : Int) < (n2 : Int)) = false := by simpa using h9
          go_wp2
          go_ret
          exact ⟨rfl, HBr.out⟩
        · have g1 : (k : Int) < (n1 : Int) := by omega
          have g2 : (k : Int) < (n2 : Int) := by omega
          have g3 : decide ((k : Int) < 100) = false := by simp; omega
          go_wp2
          go_ret
          exact ⟨rfl, HBr.out⟩

set_option maxRecDepth 100000 in
theorem lifted (os : Os) (started : os.Started) (H : Type) (enc : TypeId × Value → H) :
    ReturnsInHanded {} Try.checked os 6 .any (Rows.mirrorElderSpec.pre6 enc Try.prog Try.f6 Rows.mirrorElderRow.domain false) (Rows.mirrorElderSpec.post enc Try.prog Try.f6 false true false false) := by
  refine returnsInHanded_of_change (C := Try.checked) own started (by kernel_rfl) Try.func6
    (ChangeSpec.witness6 (enc := enc) (C := Try.checked) false ⟨#[], #[.agg #[.int .i64 0, .int .i64 0], .slice none 0 0, .slice none 0 0], []⟩ 8 (by kernel_rfl) (by kernel_rfl) (by kernel_rfl) (by kernel_rfl)) ?_
  intro W base args ds gs before hval0 hW hcnd _
  have hval : ∀ (j : Nat) t v, Try.f6.params[j]? = some t → args[j]? = some v → Value.okWide Try.prog W .any base t v := hval0
  have hW' := hW
  obtain ⟨p, q, hA0, hV, rfl, hfz, hnd⟩ := hW
  have hA : DataW.TrodAll enc Try.prog W 0 (fun _ => true) true Try.f6.params.toList args.toList ds p := hA0
  rw [Try.params6] at hA hval
  obtain ⟨v0, vs0, d0, ds0, p0, q0, hargs, rfl, rfl, h0, r0'⟩ := trodAll_cons hA
  obtain ⟨v1, vs1, d1, ds1, p1, q1, rfl, rfl, rfl, h1, r1'⟩ := trodAll_cons r0'
  obtain ⟨v2, vs2, d2, ds2, p2, q2, rfl, rfl, rfl, h2, r2'⟩ := trodAll_cons r1'
  obtain ⟨rfl, rfl, rfl⟩ := trodAll_nil r2'
  obtain rfl : args = #[v0, v1, v2] := by cases args; simp_all
  obtain ⟨rfl, rfl⟩ := trodVars_none hV
  have k0 := h0
  have lt0 : ∀ x ∈ p0, x.block < W.heap.size := by obtain ⟨m, hm⟩ := k0; exact DataW.trod_lt m _ _ _ hm
  obtain ⟨e0, s0, rfl, w0⟩ := Mr.open_ver (hval 0 44 v0 rfl rfl) h0
  have k1 := h1
  have lt1 : ∀ x ∈ p1, x.block < W.heap.size := by obtain ⟨m, hm⟩ := k1; exact DataW.trod_lt m _ _ _ hm
  obtain ⟨a1, n1, c1, l1, rfl, w1⟩ := Mr.open_i64s h1 (okWide_slice Try.underlying49 (hval 1 49 v1 rfl rfl))
  have k2 := h2
  have lt2 : ∀ x ∈ p2, x.block < W.heap.size := by obtain ⟨m, hm⟩ := k2; exact DataW.trod_lt m _ _ _ hm
  obtain ⟨a2, n2, c2, l2, rfl, w2⟩ := Mr.open_i64s h2 (okWide_slice Try.underlying49 (hval 2 49 v2 rfl rfl))
  clear hA0 hval0
  refine (walk e0 s0 a1 n1 c1 l1 a2 n2 c2 l2 W w0 w1 w2).mono fun e W' ⟨he, bel⟩ => ?_
  subst he
  exact ⟨_, rfl, _, _, _, [], _, [], hW', trodAll_mk1 (shut_bool Try.underlying4 _), (trodAll_cons_mk (Below.trod laidOut (by kernel_rfl) (of_decide_eq_true (by kernel_rfl)) k0 bel lt0) (trodAll_cons_mk (Below.trod laidOut (by kernel_rfl) (of_decide_eq_true (by kernel_rfl)) k1 bel lt1) (trodAll_cons_mk (Below.trod laidOut (by kernel_rfl) (of_decide_eq_true (by kernel_rfl)) k2 bel lt2) trodAll_mk0))), rfl, bel.frame _, fun h => by cases h⟩

theorem over : Rows.mirrorElderRow.holds Try.pinned (OpenSpec.ofChange Rows.mirrorElderSpec) :=
  OpenClaim.holds_of_wide 6 Try.f6 rfl rfl rfl rfl rfl rfl rfl ⟨rfl, rfl, rfl, rfl, rfl⟩ rfl rfl rfl rfl rfl (by kernel_rfl) Try.func6 (by kernel_rfl)
    (of_decide_eq_true (by kernel_rfl)) (by unfold Func.isWrapper; first | (rw [if_pos (by decide +kernel)]; kernel_rfl) | (rw [if_neg (by decide +kernel)]; exact ⟨rfl, rfl⟩))
    (fun os started H enc _ => lifted os started H enc)

/-- the statement -/
theorem proved : Rows.MirrorElderSaid := over
#print axioms proved
end Go.Proofs.Ytcnmkojlledipaa.mirrorElder
