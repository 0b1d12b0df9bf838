/-
  Whether two clocks go together: both ways round, by a function that is handed on.
-/
import Derived.Test.YtlicofdklfbkoaaLeLead
namespace Go.Proofs.Ytlicofdklfbkoaa.Le
open Go.RowKit
set_option linter.unusedVariables false
set_option linter.unusedSimpArgs false
set_option maxRecDepth 20000

/-- the two blocks that the handed function looks at -/
structure Caught (w : World) (p q : Nat) (a : Option Addr) (n cap : Nat) (d : Int) : Prop where
  row : w.cell? ⟨p, 0, none⟩ = some (.slice a n cap)
  num : w.cell? ⟨q, 0, none⟩ = some (.int .i64 d)

set_option maxHeartbeats 1000000 in
theorem look_any {w : World} {p q : Nat} {a : Option Addr} {n cap : Nat} {l : List Bool} {d : Int} (hc : Caught w p q a n cap d) (h : Row w a n cap (bits l)) (hn : n ≤ 1048576) (ah : Bool) (h0 : 0 ≤ d) (h9 : d ≤ 999) :
    Calls Try.prog 19 #[.bool ah, .pointer (some ⟨p, 0, none⟩), .pointer (some ⟨q, 0, none⟩)] w fun e w' => e = .returned (.bool (decide (lead l ah d ≤ 1000 + d))) ∧ Below w.heap.size w w' := by
  obtain ⟨h1, h2⟩ := hc
  have HLd : Hid (∀ m, Calls Try.prog 20 #[.slice a n cap, .bool ah, .int .i64 d] (w.drewN m) fun e w' => e = .returned (.int .i64 (lead l ah d)) ∧ ∃ m', w' = w.drewN m') := Lib.hid fun m => by
    refine (lead_any (row_below h (below_drewN w m) (Nat.le_refl _)) hn ah h0 h9).mono ?_
    rintro e w' ⟨rfl, rfl⟩
    exact ⟨rfl, m, rfl⟩
  clear h
  have e1 : IntKind.i64.wrap (1000 + d) = 1000 + d := IntWalk.i64_in _ (by omega)
  go_enter Try.func19, Try.ntmps19
  go_wp2
  go_quiet ((go_at_call 20; with_reducible exact HLd.out _))
  go_wp2
  go_ret
  exact ⟨rfl, below_drewN _ _⟩

theorem Caught.below {w w' : World} {p q : Nat} {a : Option Addr} {n cap : Nat} {d : Int} (h : Caught w p q a n cap d) (hp : p < w.heap.size) (hq : q < w.heap.size) (hb : Below w.heap.size w w') : Caught w' p q a n cap d :=
  ⟨by rw [hb.cell (p := ⟨p, 0, none⟩) hp]; exact h.row, by rw [hb.cell (p := ⟨q, 0, none⟩) hq]; exact h.num⟩

set_option maxHeartbeats 1000000 in
theorem both_any {w : World} {p q : Nat} {a : Option Addr} {n cap : Nat} {l : List Bool} {d : Int} (hc : Caught w p q a n cap d) (hp : p < w.heap.size) (hq : q < w.heap.size) (h : Row w a n cap (bits l)) (hn : n ≤ 1048576) (h0 : 0 ≤ d) (h9 : d ≤ 999) :
    Calls Try.prog 18 #[.func (.func 19) #[] #[.pointer (some ⟨p, 0, none⟩), .pointer (some ⟨q, 0, none⟩)]] w fun e w' => e = .returned (.bool (decide (lead l true d ≤ 1000 + d) && decide (lead l false d ≤ 1000 + d))) ∧ Below w.heap.size w w' := by
  have H1 := Lib.hid (look_any hc h hn true h0 h9)
  have H2 : Hid (∀ w', Below w.heap.size w w' → Calls Try.prog 19 #[.bool false, .pointer (some ⟨p, 0, none⟩), .pointer (some ⟨q, 0, none⟩)] w' fun e w'' => e = .returned (.bool (decide (lead l false d ≤ 1000 + d))) ∧ Below w'.heap.size w' w'') := Lib.hid fun w' hb => look_any (hc.below hp hq hb) (row_below h hb (Nat.le_refl _)) hn false h0 h9
  clear hc h
  generalize decide (lead l true d ≤ 1000 + d) = A at *
  generalize decide (lead l false d ≤ 1000 + d) = B at *
  go_enter Try.func18, Try.ntmps18
  cases A
  all_goals
    go_wp2_with (first
      | (go_at_call 19; with_reducible refine H1.out.mono ?_; rintro e w1 ⟨rfl, hb1⟩
         have HB := Lib.hid hb1
         clear hb1)
      | (go_at_call 19; with_reducible refine (H2.out _ HB.out).mono ?_; rintro e w2 ⟨rfl, hb2⟩
         have HC := Lib.hid (HB.out.trans (Below.mono hb2 HB.out.size))
         clear hb2))
  · go_ret
    exact ⟨rfl, HB.out⟩
  · go_ret
    exact ⟨rfl, HC.out⟩

set_option maxHeartbeats 1000000 in
theorem tog_any {w : World} {a : Option Addr} {n cap : Nat} {l : List Bool} (h : Row w a n cap (bits l)) (hn : n ≤ 1048576) (d : Int) :
    Calls Try.prog 12 #[.slice a n cap, .int .i64 d] w fun e w' => e = .returned (.bool (tog l d)) ∧ Below w.heap.size w w' := by
  have hmf : ∀ (fn : Fn) (first cap : Array Value) (w : World), (Instr.makeFunc fn first cap).run Try.prog w = .ok (.func fn first cap) w := fun _ _ _ _ => rfl
  have HD := Lib.hid (fun w' => drift_any d w')
  by_cases hd : isD d = true
  · obtain ⟨h0, h9⟩ := isD_iff.1 hd
    have Hv : Hid (tog l d = (decide (lead l true d ≤ 1000 + d) && decide (lead l false d ≤ 1000 + d))) := Lib.hid (by unfold tog; rw [hd, Bool.true_and])
    rw [hd] at HD
    have HBo : Hid (Calls Try.prog 18 #[.func (.func 19) #[] #[.pointer (some ⟨w.heap.size, 0, none⟩), .pointer (some ⟨w.heap.size + 1, 0, none⟩)]] ((w.alloc (.cells #[.slice a n cap] 22)).alloc (.cells #[.int .i64 d] 2)) fun e w' => e = .returned (.bool (decide (lead l true d ≤ 1000 + d) && decide (lead l false d ≤ 1000 + d))) ∧ Below w.heap.size ((w.alloc (.cells #[.slice a n cap] 22)).alloc (.cells #[.int .i64 d] 2)) w') := Lib.hid (by
      have hb2 := (bel1 w (.cells #[.slice a n cap] 22)).alloc (by simp) (.cells #[.int .i64 d] 2)
      refine (both_any (l := l) (a := a) (n := n) (cap := cap) (d := d) ⟨by simp [World.cell?_alloc_past], by simp⟩ (by simp; omega) (by simp) (row_below h hb2 (Nat.le_refl _)) hn h0 h9).mono ?_
      rintro e w' ⟨rfl, hb⟩
      exact ⟨rfl, hb.mono (by simp; omega)⟩)
    clear h hd
    go_enter Try.func12, Try.ntmps12
    go_wp2_with (first
      | (go_at_call 17; with_reducible refine (HD.out _).mono ?_; rintro e w1 ⟨rfl, rfl⟩)
      | (go_at_call 18; with_reducible refine HBo.out.mono ?_; rintro e w2 ⟨rfl, hb2⟩
         have HB := Lib.hid hb2
         clear hb2))
    rw [Hv.out]
    go_ret
    exact ⟨rfl, ((bel1 w _).alloc (by simp) _).trans HB.out⟩
  · have hd' : isD d = false := by simpa using hd
    have Hv : Hid (tog l d = false) := Lib.hid (by unfold tog; rw [hd', Bool.false_and])
    rw [hd'] at HD
    clear h hd hd'
    go_enter Try.func12, Try.ntmps12
    go_wp2_with (go_at_call 17; with_reducible refine (HD.out _).mono ?_; rintro e w1 ⟨rfl, rfl⟩)
    rw [Hv.out]
    go_ret
    exact ⟨rfl, (bel1 w _).alloc (by simp) _⟩
end Go.Proofs.Ytlicofdklfbkoaa.Le
