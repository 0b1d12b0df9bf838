/-
  How far one clock comes ahead of the other one.
-/
import Derived.Test.YtlicofdklfbkoaaLeLow
namespace Go.Proofs.Ytlicofdklfbkoaa.Le
open Go.RowKit
set_option linter.unusedVariables false
set_option linter.unusedSimpArgs false
set_option maxRecDepth 20000

theorem run_at {l : List Bool} {k : Nat} {t : Bool} (ht : l[k]? = some t) (ah : Bool) (d x y : Int) : run ah d x y (l.drop k) = run ah d (max (x + sc ah d t) 0) (max y (max (x + sc ah d t) 0)) (l.drop (k + 1)) := by
  have hk := (List.getElem?_eq_some_iff.1 ht).1
  have e : l[k] = t := (List.getElem?_eq_some_iff.1 ht).2
  rw [List.drop_eq_getElem_cons hk, e]
  rfl
theorem run_end {l : List Bool} {k : Nat} (hk : l.length ≤ k) (ah : Bool) (d x y : Int) : run ah d x y (l.drop k) = y := by
  rw [List.drop_eq_nil_of_le hk]
  rfl

set_option maxHeartbeats 1000000 in
theorem lead_any {w : World} {a : Option Addr} {n cap : Nat} {l : List Bool} (h : Row w a n cap (bits l)) (hn : n ≤ 1048576) (ah : Bool) {d : Int} (h0 : 0 ≤ d) (h9 : d ≤ 999) :
    Calls Try.prog 20 #[.slice a n cap, .bool ah, .int .i64 d] w fun e w' => e = .returned (.int .i64 (lead l ah d)) ∧ w = w' := by
  have HR := Lib.hid h
  have HL := Lib.hid h.len
  clear h
  go_enter Try.func20, Try.ntmps20
  go_wp2
  go_loopw [7, 8, 13] (fun now most i wr => ∃ (k : Nat) (x y : Int), k ≤ n ∧ now = .int .i64 x ∧ most = .int .i64 y ∧ i = .int .i64 (k : Int) ∧ 0 ≤ x ∧ x ≤ y ∧ y ≤ (k : Int) * 1000 ∧ run ah d x y (l.drop k) = lead l ah d ∧ wr = w) (fun _ _ i _ => n - (intOf i).toNat)
  case atStart => exact ⟨0, 0, 0, by omega, rfl, rfl, rfl, by omega, by omega, by omega, rfl, rfl⟩
  case round =>
    obtain ⟨k, x, y, hk, rfl, rfl, rfl, hx, hxy, hy, hrun, rfl⟩ := hrel
    by_cases hlt : k < n
    · have hltI : (k : Int) < (n : Int) := by omega
      obtain ⟨t, ht⟩ : ∃ t, l[k]? = some t := ⟨_, List.getElem?_eq_getElem (by have := HL.out; omega)⟩
      obtain ⟨b, off, rfl, hb, hc⟩ := HR.out.tick ht
      have hstep := Lib.hid ((run_at ht ah d x y).symm.trans hrun)
      clear hrun hlt
      by_cases e : t = ah
      · have hs : sc ah d t = 1000 - d := by unfold sc; rw [if_pos e]
        rw [hs] at hstep
        subst e
        go_wp2
        refine ⟨⟨k + 1, x + (1000 - d), _, by omega, rfl, rfl, by go_num, by omega, by split <;> omega, by split <;> omega, ?_, trivial⟩, by simp [intOf]; omega⟩
        rw [← hstep.out]
        congr 1 <;> (try split) <;> omega
      · have hs : sc ah d t = -(1000 + d) := by unfold sc; rw [if_neg e]
        rw [hs] at hstep
        have hb2 : (t == ah) = false := by simpa using e
        clear e
        by_cases hz : x - (1000 + d) < 0
        · go_wp2
          refine ⟨⟨k + 1, 0, y, by omega, rfl, rfl, by go_num, by omega, by omega, by omega, ?_, trivial⟩, by simp [intOf]; omega⟩
          rw [← hstep.out]
          congr 1 <;> omega
        · go_wp2
          refine ⟨⟨k + 1, x - (1000 + d), y, by omega, rfl, rfl, by go_num, by omega, by omega, by omega, ?_, trivial⟩, by simp [intOf]; omega⟩
          rw [← hstep.out]
          congr 1 <;> omega
    · rw [run_end (by have := HL.out; omega)] at hrun
      have Hy := Lib.hid hrun
      clear hrun
      go_wp2
      rw [← Hy.out]
      go_ret
      exact ⟨rfl, rfl⟩
end Go.Proofs.Ytlicofdklfbkoaa.Le
