/-
  PROVED: what may be may be without its last number, or its last text; with more of either than may be it may not. CONDITIONS: none (any record).
-/
import Derived.Test.YtdakfhoadfbfiaaBox
import Derived.Test.YtdakfhoadfbfiaaOpen
import Derived.Deep.RegionHeld3
import Derived.Deep.QuietTactic
import Derived.BigQuiet
namespace Go.Proofs.Ytdakfhoadfbfiaa.codeMay
open Go.ChangeShapes Go.WideShapes Go.ChangeAt Go.RowKit Go.Joins
set_option linter.unusedVariables false
set_option linter.unusedSimpArgs false
set_option maxRecDepth 20000

theorem run_to22 (a : Option Addr) (n cap k : Nat) (hk : k ≤ cap) (w : World) : (Instr.slice 22 (.slice a n cap) none (some (.int .i64 (k : Int))) none).run Try.prog w = .ok (.slice (adv a cap 0) k cap) w := by
  refine run_to 22 2 ?_ (fun w => ?_) a n cap k hk w
  · rw [show Try.prog.elem 22 = 2 from by kernel_rfl]; exact Try.underlying22
  · obtain ⟨i0, hi0, hz0, hz1, hz2⟩ := info_parts i64_info
    rw [show Try.prog.elem 22 = 2 from by kernel_rfl]
    simp [sizeOf, typeInfo, hi0, hz1]
theorem run_to23 (a : Option Addr) (n cap k : Nat) (hk : k ≤ cap) (w : World) : (Instr.slice 23 (.slice a n cap) none (some (.int .i64 (k : Int))) none).run Try.prog w = .ok (.slice (adv a cap 0) k cap) w := by
  refine run_to 23 9 ?_ (fun w => ?_) a n cap k hk w
  · rw [show Try.prog.elem 23 = 9 from by kernel_rfl]; exact Try.underlying23
  · obtain ⟨i0, hi0, hz0, hz1, hz2⟩ := info_parts str_info
    rw [show Try.prog.elem 23 = 9 from by kernel_rfl]
    simp [sizeOf, typeInfo, hi0, hz1]
theorem zeros17 (w : World) (N : Nat) (hN : w.heap.size = N) : Row (w.alloc (.cells #[.int .i64 0, .int .i64 0, .int .i64 0, .int .i64 0, .int .i64 0, .int .i64 0, .int .i64 0, .int .i64 0, .int .i64 0, .int .i64 0, .int .i64 0, .int .i64 0, .int .i64 0, .int .i64 0, .int .i64 0, .int .i64 0, .int .i64 0] 2)) (some ⟨N, 0, none⟩) 17 17 (i64s (List.replicate 17 0)) := by
  subst hN
  exact row_lit w 2 (i64s (List.replicate 17 0)) (by simp [i64s])
theorem empties5 (w : World) (N : Nat) (hN : w.heap.size = N) : Row (w.alloc (.cells #[.string ⟨#[]⟩, .string ⟨#[]⟩, .string ⟨#[]⟩, .string ⟨#[]⟩, .string ⟨#[]⟩] 9)) (some ⟨N, 0, none⟩) 5 5 (strs (List.replicate 5 ⟨#[]⟩)) := by
  subst hN
  exact row_lit w 9 (strs (List.replicate 5 ⟨#[]⟩)) (by simp [strs])
theorem make17 (w : World) : (Instr.makeSlice 22 (.int .i64 17) (.int .i64 17)).run Try.prog w = .ok (.slice (some ⟨w.heap.size, 0, none⟩) 17 17) (w.alloc (.cells #[.int .i64 0, .int .i64 0, .int .i64 0, .int .i64 0, .int .i64 0, .int .i64 0, .int .i64 0, .int .i64 0, .int .i64 0, .int .i64 0, .int .i64 0, .int .i64 0, .int .i64 0, .int .i64 0, .int .i64 0, .int .i64 0, .int .i64 0] 2)) := by
  kernel_rfl
theorem make5 (w : World) : (Instr.makeSlice 23 (.int .i64 5) (.int .i64 5)).run Try.prog w = .ok (.slice (some ⟨w.heap.size, 0, none⟩) 5 5) (w.alloc (.cells #[.string ⟨#[]⟩, .string ⟨#[]⟩, .string ⟨#[]⟩, .string ⟨#[]⟩, .string ⟨#[]⟩] 9)) := by
  kernel_rfl
theorem zeros_at (k : Int) (w : World) : RecAt ((w.alloc (.cells #[.int .i64 0, .int .i64 0, .int .i64 0, .int .i64 0, .int .i64 0, .int .i64 0, .int .i64 0, .int .i64 0, .int .i64 0, .int .i64 0, .int .i64 0, .int .i64 0, .int .i64 0, .int .i64 0, .int .i64 0, .int .i64 0, .int .i64 0] 2)).drew) ⟨k, List.replicate 17 0, []⟩ (some ⟨w.heap.size, 0, none⟩) 17 17 none 0 0 := ⟨row_same (zeros17 w _ rfl) rfl, row_nil _⟩
theorem empties_at (k : Int) (w : World) : RecAt (w.alloc (.cells #[.string ⟨#[]⟩, .string ⟨#[]⟩, .string ⟨#[]⟩, .string ⟨#[]⟩, .string ⟨#[]⟩] 9)) ⟨k, [], List.replicate 5 ⟨#[]⟩⟩ none 0 0 (some ⟨w.heap.size, 0, none⟩) 5 5 := ⟨row_nil _, empties5 w _ rfl⟩
theorem many_nums (k : Int) : ¬ M.May ⟨k, List.replicate 17 0, []⟩ := by intro h; have := h.2.2.1; rw [List.length_replicate] at this; omega
theorem many_texts (k : Int) : ¬ M.May ⟨k, [], List.replicate 5 ⟨#[]⟩⟩ := by intro h; have := h.2.2.2.1; rw [List.length_replicate] at this; omega

set_option maxHeartbeats 1000000 in
theorem walk (r0 : M.Rc) (aN0 : Option Addr) (nN0 cN0 : Nat) (aT0 : Option Addr) (nT0 cT0 : Nat) (w : World) (w0 : RecAt w r0 aN0 nN0 cN0 aT0 nT0 cT0) (f0 : M.Fits r0) :
    Calls Try.prog 10 #[.agg #[.int .i64 r0.kind, .slice aN0 nN0 cN0, .slice aT0 nT0 cT0]] w fun e w' => e = .returned (.bool true) ∧ Below w.heap.size w w' := by
  have H := Lib.hid w0
  have F := Lib.hid f0
  clear w0 f0
  by_cases hl : nN0 ≤ 1000 ∧ nT0 ≤ 1000
  · obtain ⟨hl1, hl2⟩ := hl
    by_cases hm : M.May r0
    · have Hm := Lib.hid hm
      have hn16 : nN0 ≤ 16 := by have := H.out.lenN; have := hm.2.2.1; omega
      have ht4 : nT0 ≤ 4 := by have := H.out.lenT; have := hm.2.2.2.1; omega
      clear hm
      go_enter Try.func10, Try.ntmps10
      go_wp2_with (first
        | (go_at_call 12; refine (awake_any _).mono ?_; rintro e w1 ⟨rfl, hb⟩; have B1 := Lib.hid ((Bx.refl w (.cells #[.int .i64 r0.kind, .slice aN0 nN0 cN0, .slice aT0 nT0 cT0] 25)).next hb (Nat.le_refl _)); obtain ⟨c1, c2, c3⟩ := B1.out.cells; clear hb)
        | (go_at_call 13; refine (large_no _ _ _ _ _ _ _ _ hl1 hl2).mono ?_; rintro e w2 ⟨rfl, hb⟩; have B2 := Lib.hid (B1.out.next hb (Nat.le_refl _)); obtain ⟨d1, d2, d3⟩ := B2.out.cells; clear hb)
        | (go_at_call 16; refine (may_yes _ r0 _ _ _ _ _ _ (B2.out.rec H.out) Hm.out).mono ?_; rintro e w3 ⟨rfl, hb⟩; have B3 := Lib.hid (B2.out.next hb (Nat.le_refl _)); obtain ⟨e1, e2, e3⟩ := B3.out.cells; clear hb))
      by_cases hn0 : nN0 = 0
      · subst hn0
        go_quiet (fail)
        have B6 := Lib.hid (B3.out.drewN nq)
        generalize w3.drewN nq = w6 at *
        obtain ⟨p1, p2, p3⟩ := B6.out.cells
        go_wp2_with fail
        clear p1 p2 p3
        by_cases ht0 : nT0 = 0
        · subst ht0
          obtain ⟨k1, k2, k3⟩ := B6.out.cells
          go_quiet (fail)
          clear k1 k2 k3
          have BB := Lib.hid (B6.out.drewN nq)
          generalize w6.drewN nq = wb at *
          go_wp2_with fail
          obtain ⟨l1, l2, l3⟩ := BB.out.cells
          have hmk := make17
          have hmk5 := make5
          go_region_held3 (fun w' => w'.cell? ⟨w.heap.size, 0, none⟩ = some (.int .i64 r0.kind) ∧ w'.cell? ⟨w.heap.size, 1, none⟩ = some (.slice aN0 0 cN0) ∧ w'.cell? ⟨w.heap.size, 2, none⟩ = some (.slice aT0 0 cT0))
            (first | (refine ⟨?_, ?_, ?_⟩ <;> assumption) | go_keep)
            ((first
              | (go_at_call 16; ((with_reducible refine (may_no _ _ _ _ _ _ _ _ (zeros_at r0.kind wb) (many_nums _)).mono ?_); rintro e v1 ⟨rfl, hb⟩; have E1 := Lib.hid (((BB.out.alloc _).drew).next hb (Nat.le_refl _)); obtain ⟨m1, m2, m3⟩ := E1.out.cells; clear hb))
              | (go_at_call 16; ((with_reducible refine (may_no _ _ _ _ _ _ _ _ (empties_at r0.kind v1) (many_texts _)).mono ?_); rintro e v2 ⟨rfl, hb⟩; have E2 := Lib.hid ((E1.out.alloc _).next hb (Nat.le_refl _)); obtain ⟨o1, o2, o3⟩ := E2.out.cells; clear hb))))
          all_goals
            go_wp2_with fail
            go_ret
            exact ⟨rfl, E2.out.old⟩
        · obtain ⟨j, rfl⟩ : ∃ j, nT0 = j + 1 := ⟨nT0 - 1, by omega⟩
          have hgt : (0 : Int) < ((j + 1 : Nat) : Int) := by omega
          have hgt2 : decide ((0 : Int) < (j : Int) + 1) = true := by rw [decide_eq_true_eq]; omega
          have hs := fun w => run_to23 aT0 (j + 1) cT0 j (by have := H.out.texts.2.1; omega) w
          have hwr : IntKind.i64.wrap (j : Int) = (j : Int) := by rw [IntKind.wrap_i64]; omega
          have Hcut2 : Hid (RecAt w ⟨r0.kind, r0.nums, r0.texts.take j⟩ aN0 0 cN0 (adv aT0 cT0 0) j cT0) := by
            refine ⟨H.out.nums, ?_⟩
            have := row_take H.out.texts j (by omega)
            rw [show (strs r0.texts).take j = strs (r0.texts.take j) from (List.map_take ..).symm] at this
            exact this
          have Hmay2 : Hid (M.May ⟨r0.kind, r0.nums, r0.texts.take j⟩) := ⟨Hm.out.1, Hm.out.2.1, Hm.out.2.2.1, by have := Hm.out.2.2.2.1; show (r0.texts.take j).length ≤ 4; rw [List.length_take]; omega, fun t ht => Hm.out.2.2.2.2 t (List.mem_of_mem_take ht)⟩
          generalize adv aT0 cT0 0 = b1 at *
          obtain ⟨k1, k2, k3⟩ := B6.out.cells
          go_region_held3 (fun w' => w'.cell? ⟨w.heap.size, 0, none⟩ = some (.int .i64 r0.kind) ∧ w'.cell? ⟨w.heap.size, 1, none⟩ = some (.slice aN0 0 cN0) ∧ w'.cell? ⟨w.heap.size, 2, none⟩ = some (.slice aT0 (j + 1) cT0))
            (first | (refine ⟨?_, ?_, ?_⟩ <;> assumption) | go_keep)
            ((go_at_call 16; refine (may_yes _ ⟨r0.kind, r0.nums, r0.texts.take j⟩ _ _ _ _ _ _ (B6.out.drew.rec Hcut2.out) Hmay2.out).mono ?_; rintro e wb ⟨rfl, hb⟩; have BB := Lib.hid (B6.out.drew.next hb (Nat.le_refl _)); obtain ⟨k1, k2, k3⟩ := BB.out.cells; clear hb))
          clear hgt hgt2 hs hwr k1 k2 k3
          go_wp2_with fail
          obtain ⟨l1, l2, l3⟩ := BB.out.cells
          have hmk := make17
          have hmk5 := make5
          go_region_held3 (fun w' => w'.cell? ⟨w.heap.size, 0, none⟩ = some (.int .i64 r0.kind) ∧ w'.cell? ⟨w.heap.size, 1, none⟩ = some (.slice aN0 0 cN0) ∧ w'.cell? ⟨w.heap.size, 2, none⟩ = some (.slice aT0 (j + 1) cT0))
            (first | (refine ⟨?_, ?_, ?_⟩ <;> assumption) | go_keep)
            ((first
              | (go_at_call 16; ((with_reducible refine (may_no _ _ _ _ _ _ _ _ (zeros_at r0.kind wb) (many_nums _)).mono ?_); rintro e v1 ⟨rfl, hb⟩; have E1 := Lib.hid (((BB.out.alloc _).drew).next hb (Nat.le_refl _)); obtain ⟨m1, m2, m3⟩ := E1.out.cells; clear hb))
              | (go_at_call 16; ((with_reducible refine (may_no _ _ _ _ _ _ _ _ (empties_at r0.kind v1) (many_texts _)).mono ?_); rintro e v2 ⟨rfl, hb⟩; have E2 := Lib.hid ((E1.out.alloc _).next hb (Nat.le_refl _)); obtain ⟨o1, o2, o3⟩ := E2.out.cells; clear hb))))
          all_goals
            go_wp2_with fail
            go_ret
            exact ⟨rfl, E2.out.old⟩
      · obtain ⟨k, rfl⟩ : ∃ k, nN0 = k + 1 := ⟨nN0 - 1, by omega⟩
        have hgt : (0 : Int) < ((k + 1 : Nat) : Int) := by omega
        have hgt2 : decide ((0 : Int) < (k : Int) + 1) = true := by rw [decide_eq_true_eq]; omega
        have hs := fun w => run_to22 aN0 (k + 1) cN0 k (by have := H.out.nums.2.1; omega) w
        have hwr : IntKind.i64.wrap (k : Int) = (k : Int) := by rw [IntKind.wrap_i64]; omega
        have Hcut : Hid (RecAt w ⟨r0.kind, r0.nums.take k, r0.texts⟩ (adv aN0 cN0 0) k cN0 aT0 nT0 cT0) := by
          refine ⟨?_, H.out.texts⟩
          have := row_take H.out.nums k (by omega)
          rw [show (i64s r0.nums).take k = i64s (r0.nums.take k) from (List.map_take ..).symm] at this
          exact this
        have Hmay : Hid (M.May ⟨r0.kind, r0.nums.take k, r0.texts⟩) := ⟨Hm.out.1, Hm.out.2.1, by have := Hm.out.2.2.1; show (r0.nums.take k).length ≤ 16; rw [List.length_take]; omega, Hm.out.2.2.2.1, Hm.out.2.2.2.2⟩
        generalize adv aN0 cN0 0 = b0 at *
        go_region_held3 (fun w' => w'.cell? ⟨w.heap.size, 0, none⟩ = some (.int .i64 r0.kind) ∧ w'.cell? ⟨w.heap.size, 1, none⟩ = some (.slice aN0 (k + 1) cN0) ∧ w'.cell? ⟨w.heap.size, 2, none⟩ = some (.slice aT0 nT0 cT0))
          (first | (refine ⟨?_, ?_, ?_⟩ <;> assumption) | go_keep)
          ((go_at_call 16; refine (may_yes _ ⟨r0.kind, r0.nums.take k, r0.texts⟩ _ _ _ _ _ _ (B3.out.drew.rec Hcut.out) Hmay.out).mono ?_; rintro e w6 ⟨rfl, hb⟩; have B6 := Lib.hid (B3.out.drew.next hb (Nat.le_refl _)); obtain ⟨p1, p2, p3⟩ := B6.out.cells; clear hb))
        clear hgt hgt2 hs hwr
        go_wp2_with fail
        clear p1 p2 p3
        by_cases ht0 : nT0 = 0
        · subst ht0
          obtain ⟨k1, k2, k3⟩ := B6.out.cells
          go_quiet (fail)
          clear k1 k2 k3
          have BB := Lib.hid (B6.out.drewN nq)
          generalize w6.drewN nq = wb at *
          go_wp2_with fail
          obtain ⟨l1, l2, l3⟩ := BB.out.cells
          have hmk := make17
          have hmk5 := make5
          go_region_held3 (fun w' => w'.cell? ⟨w.heap.size, 0, none⟩ = some (.int .i64 r0.kind) ∧ w'.cell? ⟨w.heap.size, 1, none⟩ = some (.slice aN0 (k + 1) cN0) ∧ w'.cell? ⟨w.heap.size, 2, none⟩ = some (.slice aT0 0 cT0))
            (first | (refine ⟨?_, ?_, ?_⟩ <;> assumption) | go_keep)
            ((first
              | (go_at_call 16; ((with_reducible refine (may_no _ _ _ _ _ _ _ _ (zeros_at r0.kind wb) (many_nums _)).mono ?_); rintro e v1 ⟨rfl, hb⟩; have E1 := Lib.hid (((BB.out.alloc _).drew).next hb (Nat.le_refl _)); obtain ⟨m1, m2, m3⟩ := E1.out.cells; clear hb))
              | (go_at_call 16; ((with_reducible refine (may_no _ _ _ _ _ _ _ _ (empties_at r0.kind v1) (many_texts _)).mono ?_); rintro e v2 ⟨rfl, hb⟩; have E2 := Lib.hid ((E1.out.alloc _).next hb (Nat.le_refl _)); obtain ⟨o1, o2, o3⟩ := E2.out.cells; clear hb))))
          all_goals
            go_wp2_with fail
            go_ret
            exact ⟨rfl, E2.out.old⟩
        · obtain ⟨j, rfl⟩ : ∃ j, nT0 = j + 1 := ⟨nT0 - 1, by omega⟩
          have hgt : (0 : Int) < ((j + 1 : Nat) : Int) := by omega
          have hgt2 : decide ((0 : Int) < (j : Int) + 1) = true := by rw [decide_eq_true_eq]; omega
          have hs := fun w => run_to23 aT0 (j + 1) cT0 j (by have := H.out.texts.2.1; omega) w
          have hwr : IntKind.i64.wrap (j : Int) = (j : Int) := by rw [IntKind.wrap_i64]; omega
          have Hcut2 : Hid (RecAt w ⟨r0.kind, r0.nums, r0.texts.take j⟩ aN0 (k + 1) cN0 (adv aT0 cT0 0) j cT0) := by
            refine ⟨H.out.nums, ?_⟩
            have := row_take H.out.texts j (by omega)
            rw [show (strs r0.texts).take j = strs (r0.texts.take j) from (List.map_take ..).symm] at this
            exact this
          have Hmay2 : Hid (M.May ⟨r0.kind, r0.nums, r0.texts.take j⟩) := ⟨Hm.out.1, Hm.out.2.1, Hm.out.2.2.1, by have := Hm.out.2.2.2.1; show (r0.texts.take j).length ≤ 4; rw [List.length_take]; omega, fun t ht => Hm.out.2.2.2.2 t (List.mem_of_mem_take ht)⟩
          generalize adv aT0 cT0 0 = b1 at *
          obtain ⟨k1, k2, k3⟩ := B6.out.cells
          go_region_held3 (fun w' => w'.cell? ⟨w.heap.size, 0, none⟩ = some (.int .i64 r0.kind) ∧ w'.cell? ⟨w.heap.size, 1, none⟩ = some (.slice aN0 (k + 1) cN0) ∧ w'.cell? ⟨w.heap.size, 2, none⟩ = some (.slice aT0 (j + 1) cT0))
            (first | (refine ⟨?_, ?_, ?_⟩ <;> assumption) | go_keep)
            ((go_at_call 16; refine (may_yes _ ⟨r0.kind, r0.nums, r0.texts.take j⟩ _ _ _ _ _ _ (B6.out.drew.rec Hcut2.out) Hmay2.out).mono ?_; rintro e wb ⟨rfl, hb⟩; have BB := Lib.hid (B6.out.drew.next hb (Nat.le_refl _)); obtain ⟨k1, k2, k3⟩ := BB.out.cells; clear hb))
          clear hgt hgt2 hs hwr k1 k2 k3
          go_wp2_with fail
          obtain ⟨l1, l2, l3⟩ := BB.out.cells
          have hmk := make17
          have hmk5 := make5
          go_region_held3 (fun w' => w'.cell? ⟨w.heap.size, 0, none⟩ = some (.int .i64 r0.kind) ∧ w'.cell? ⟨w.heap.size, 1, none⟩ = some (.slice aN0 (k + 1) cN0) ∧ w'.cell? ⟨w.heap.size, 2, none⟩ = some (.slice aT0 (j + 1) cT0))
            (first | (refine ⟨?_, ?_, ?_⟩ <;> assumption) | go_keep)
            ((first
              | (go_at_call 16; ((with_reducible refine (may_no _ _ _ _ _ _ _ _ (zeros_at r0.kind wb) (many_nums _)).mono ?_); rintro e v1 ⟨rfl, hb⟩; have E1 := Lib.hid (((BB.out.alloc _).drew).next hb (Nat.le_refl _)); obtain ⟨m1, m2, m3⟩ := E1.out.cells; clear hb))
              | (go_at_call 16; ((with_reducible refine (may_no _ _ _ _ _ _ _ _ (empties_at r0.kind v1) (many_texts _)).mono ?_); rintro e v2 ⟨rfl, hb⟩; have E2 := Lib.hid ((E1.out.alloc _).next hb (Nat.le_refl _)); obtain ⟨o1, o2, o3⟩ := E2.out.cells; clear hb))))
          all_goals
            go_wp2_with fail
            go_ret
            exact ⟨rfl, E2.out.old⟩
    · have Hm := Lib.hid hm
      clear hm
      go_enter Try.func10, Try.ntmps10
      go_wp2_with (first
        | (go_at_call 12; refine (awake_any _).mono ?_; rintro e w1 ⟨rfl, hb⟩; have B1 := Lib.hid ((Bx.refl w (.cells #[.int .i64 r0.kind, .slice aN0 nN0 cN0, .slice aT0 nT0 cT0] 25)).next hb (Nat.le_refl _)); obtain ⟨c1, c2, c3⟩ := B1.out.cells; clear hb)
        | (go_at_call 13; refine (large_no _ _ _ _ _ _ _ _ hl1 hl2).mono ?_; rintro e w2 ⟨rfl, hb⟩; have B2 := Lib.hid (B1.out.next hb (Nat.le_refl _)); obtain ⟨d1, d2, d3⟩ := B2.out.cells; clear hb)
        | (go_at_call 16; refine (may_no _ r0 _ _ _ _ _ _ (B2.out.rec H.out) Hm.out).mono ?_; rintro e w3 ⟨rfl, hb⟩; have B3 := Lib.hid (B2.out.next hb (Nat.le_refl _)); clear hb))
      go_ret
      exact ⟨rfl, B3.out.old⟩
  · go_enter Try.func10, Try.ntmps10
    go_wp2_with (first
        | (go_at_call 12; refine (awake_any _).mono ?_; rintro e w1 ⟨rfl, hb⟩; have B1 := Lib.hid ((Bx.refl w (.cells #[.int .i64 r0.kind, .slice aN0 nN0 cN0, .slice aT0 nT0 cT0] 25)).next hb (Nat.le_refl _)); obtain ⟨c1, c2, c3⟩ := B1.out.cells; clear hb)
        | (go_at_call 13; refine (large_yes _ _ _ _ _ _ _ _ hl).mono ?_; rintro e w2 ⟨rfl, hb⟩; have B2 := Lib.hid (B1.out.next hb (Nat.le_refl _)); clear hb))
    go_ret
    exact ⟨rfl, B2.out.old⟩

set_option maxRecDepth 100000 in
theorem lifted (os : Os) (started : os.Started) (H : Type) (enc : TypeId × Value → H) :
    ReturnsInHanded {} Try.checked os 10 .any (Rows.codeMaySpec.pre6 enc Try.prog Try.f10 Rows.codeMayRow.domain false) (Rows.codeMaySpec.post enc Try.prog Try.f10 false true false false) := by
  refine returnsInHanded_of_change (C := Try.checked) own started (by kernel_rfl) Try.func10
    (ChangeSpec.witness6 (enc := enc) (C := Try.checked) false ⟨#[], #[.agg #[.int .i64 0, .slice none 0 0, .slice none 0 0]], []⟩ 8 (by kernel_rfl) (by kernel_rfl) (by kernel_rfl) (by kernel_rfl)) ?_
  intro W base args ds gs before hval0 hW hcnd _
  have hval : ∀ (j : Nat) t v, Try.f10.params[j]? = some t → args[j]? = some v → Value.okWide Try.prog W .any base t v := hval0
  have hW' := hW
  obtain ⟨p, q, hA0, hV, rfl, hfz, hnd⟩ := hW
  have hA : DataW.TrodAll enc Try.prog W 0 (fun _ => true) true Try.f10.params.toList args.toList ds p := hA0
  rw [Try.params10] at hA hval
  obtain ⟨v0, vs0, d0, ds0, p0, q0, hargs, rfl, rfl, h0, r0'⟩ := trodAll_cons hA
  obtain ⟨rfl, rfl, rfl⟩ := trodAll_nil r0'
  obtain rfl : args = #[v0] := by cases args; simp_all
  obtain ⟨rfl, rfl⟩ := trodVars_none hV
  have k0 := h0
  have lt0 : ∀ x ∈ p0, x.block < W.heap.size := by obtain ⟨m, hm⟩ := k0; exact DataW.trod_lt m _ _ _ hm
  obtain ⟨r0, aN0, nN0, cN0, aT0, nT0, cT0, rfl, w0, f0⟩ := open_rec (hval 0 25 v0 rfl rfl) h0
  clear hA0 hval0
  refine (walk r0 aN0 nN0 cN0 aT0 nT0 cT0 W w0 f0).mono fun e W' ⟨he, bel⟩ => ?_
  subst he
  exact ⟨_, rfl, _, _, _, [], _, [], hW', trodAll_mk1 (shut_bool Try.underlying4 _), (trodAll_cons_mk (Below.trod laidOut (by kernel_rfl) (of_decide_eq_true (by kernel_rfl)) k0 bel lt0) trodAll_mk0), rfl, bel.frame _, fun h => by cases h⟩

theorem over : Rows.codeMayRow.holds Try.pinned (OpenSpec.ofChange Rows.codeMaySpec) :=
  OpenClaim.holds_of_wide 10 Try.f10 rfl rfl rfl rfl rfl rfl rfl ⟨rfl, rfl, rfl, rfl, rfl⟩ rfl rfl rfl rfl rfl (by kernel_rfl) Try.func10 (by kernel_rfl)
    (of_decide_eq_true (by kernel_rfl)) (by unfold Func.isWrapper; first | (rw [if_pos (by decide +kernel)]; kernel_rfl) | (rw [if_neg (by decide +kernel)]; exact ⟨rfl, rfl⟩))
    (fun os started H enc _ => lifted os started H enc)

/-- the statement -/
theorem proved : Rows.CodeMaySaid := over
#print axioms proved
end Go.Proofs.Ytdakfhoadfbfiaa.codeMay
