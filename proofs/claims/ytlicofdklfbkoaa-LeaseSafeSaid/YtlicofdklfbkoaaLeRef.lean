/-
  The document's own answer whether two clocks go together: from each time on, to each.
-/
import Derived.Test.YtlicofdklfbkoaaLeOpen
namespace Go.Proofs.Ytlicofdklfbkoaa.Le
open Go.RowKit
set_option linter.unusedVariables false
set_option linter.unusedSimpArgs false
set_option maxRecDepth 20000

theorem prods {a d : Int} (h0 : 0 ≤ a) (h1 : a ≤ 201) (d0 : 0 ≤ d) (d9 : d ≤ 999) : (0 ≤ a * (1000 - d) ∧ a * (1000 - d) ≤ 401799) ∧ (0 ≤ a * (1000 + d) ∧ a * (1000 + d) ≤ 401799) := by
  have e1 : a * (1000 - d) ≤ 201 * (1000 - d) := Int.mul_le_mul_of_nonneg_right h1 (by omega)
  have e2 : a * (1000 + d) ≤ 201 * (1000 + d) := Int.mul_le_mul_of_nonneg_right h1 (by omega)
  have e3 := Int.mul_nonneg h0 (show 0 ≤ 1000 - d by omega)
  have e4 := Int.mul_nonneg h0 (show 0 ≤ 1000 + d by omega)
  omega

/-- what the answer says -/
def RPost (w : World) (l : List Bool) (d : Int) (e : Ending) (w' : World) : Prop := ∃ b, e = .returned (.bool b) ∧ (b = true → Go l d) ∧ w = w'

set_option maxHeartbeats 4000000 in
theorem ref_any {w : World} {a : Option Addr} {n cap : Nat} {l : List Bool} (h : Row w a n cap (bits l)) (hn : n ≤ 200) (d : Int) :
    Calls Try.prog 10 #[.slice a n cap, .int .i64 d] w (RPost w l d) := by
  have HR := Lib.hid h
  have HL := Lib.hid h.len
  clear h
  by_cases hd0 : d < 0
  · go_enter Try.func10, Try.ntmps10
    go_wp2
    go_ret
    exact ⟨false, rfl, by simp, rfl⟩
  by_cases hd9 : 999 < d
  · have hd9' : decide (999 < d) = true := by simpa using hd9
    go_enter Try.func10, Try.ntmps10
    go_wp2
    go_ret
    exact ⟨false, rfl, by simp, rfl⟩
  have hd9' : decide (999 < d) = false := by simpa using hd9
  have d0 : 0 ≤ d := by omega
  have d9 : d ≤ 999 := by omega
  go_enter Try.func10, Try.ntmps10
  go_wp2
  go_loopw [5] (fun iv wr => ∃ i : Nat, i ≤ n ∧ iv = .int .i64 (i : Int) ∧ Hid (∀ i' k, i' < i → i' ≤ k → k ≤ n → Ok l d i' k) ∧ wr = w) (fun iv _ => n - (intOf iv).toNat)
  case atStart => exact ⟨0, by omega, rfl, Lib.hid (fun _ _ h => by omega), rfl⟩
  case round =>
    obtain ⟨i, hi, rfl, HO, rfl⟩ := hrel
    by_cases hlt : i < n
    · have hltI : (i : Int) < (n : Int) := by omega
      go_wp2
      go_loopw [6, 7, 8] (fun av bv kv wr' => ∃ k : Nat, i ≤ k ∧ k ≤ n ∧ av = .int .i64 (cn l i k true : Int) ∧ bv = .int .i64 (cn l i k false : Int) ∧ kv = .int .i64 (k : Int) ∧ Hid (∀ k', i ≤ k' → k' ≤ k → Ok l d i k') ∧ wr' = wr) (fun _ _ kv _ => n - (intOf kv).toNat)
      case atStart => exact ⟨i, by omega, by omega, by rw [cn_self]; rfl, by rw [cn_self]; rfl, rfl, Lib.hid (fun k' h1 h2 => by rw [show k' = i from Nat.le_antisymm h2 h1]; exact ok_self d0 _), rfl⟩
      case round =>
        obtain ⟨k, hik, hk, rfl, rfl, rfl, HK, rfl⟩ := hrel
        by_cases hlk : k < n
        · have hlkI : (k : Int) < (n : Int) := by omega
          obtain ⟨t, ht⟩ : ∃ t, l[k]? = some t := ⟨_, List.getElem?_eq_getElem (by have := HL.out; omega)⟩
          obtain ⟨b, off, rfl, hb, hc⟩ := HR.out.tick ht
          have s1 := cn_step ht hik true
          have s2 := cn_step ht hik false
          have u1 := cn_le l i k true
          have u2 := cn_le l i k false
          have HOk : Hid (Ok l d i (k + 1) → ∀ k', i ≤ k' → k' ≤ k + 1 → Ok l d i k') := Lib.hid fun h k' h1 h2 => by
            by_cases e : k' = k + 1
            · rw [e]; exact h
            · exact HK.out k' h1 (by omega)
          clear HK ht
          generalize cn l i k true = X at *
          generalize cn l i k false = Y at *
          cases t
          · have HX' : Hid ((cn l i (k + 1) true : Int) = (X : Int)) := Lib.hid (by rw [s1]; simp)
            have HY' : Hid ((cn l i (k + 1) false : Int) = (Y : Int) + 1) := Lib.hid (by rw [s2]; simp)
            clear s1 s2
            obtain ⟨⟨p1, p2⟩, _⟩ := prods (a := (X : Int)) (by omega) (by omega) d0 d9
            obtain ⟨_, p3, p4⟩ := prods (a := (Y : Int) + 1 + 1) (by omega) (by omega) d0 d9
            obtain ⟨⟨p5, p6⟩, _⟩ := prods (a := (Y : Int) + 1) (by omega) (by omega) d0 d9
            obtain ⟨_, p7, p8⟩ := prods (a := (X : Int) + 1) (by omega) (by omega) d0 d9
            by_cases q1 : ((Y : Int) + 1 + 1) * (1000 + d) < ((X : Int)) * (1000 - d)
            · have q1' : decide (((Y : Int) + 1 + 1) * (1000 + d) < ((X : Int)) * (1000 - d)) = true := by simpa using q1
              go_wp2
              go_ret
              exact ⟨false, rfl, by simp, rfl⟩
            · have q1' : decide (((Y : Int) + 1 + 1) * (1000 + d) < ((X : Int)) * (1000 - d)) = false := by simpa using q1
              by_cases q2 : ((X : Int) + 1) * (1000 + d) < ((Y : Int) + 1) * (1000 - d)
              · have q2' : decide (((X : Int) + 1) * (1000 + d) < ((Y : Int) + 1) * (1000 - d)) = true := by simpa using q2
                go_wp2
                go_ret
                exact ⟨false, rfl, by simp, rfl⟩
              · have q2' : decide (((X : Int) + 1) * (1000 + d) < ((Y : Int) + 1) * (1000 - d)) = false := by simpa using q2
                have hok : Hid (Ok l d i (k + 1)) := Lib.hid (by unfold Ok; rw [HX'.out, HY'.out]; omega)
                go_wp2
                go_roundw
                case rel => exact ⟨k + 1, by omega, by omega, by rw [HX'.out], by rw [HY'.out], by go_num, Lib.hid (HOk.out hok.out), trivial⟩
                case measure => simp [intOf]; omega
          · have HX' : Hid ((cn l i (k + 1) true : Int) = (X : Int) + 1) := Lib.hid (by rw [s1]; simp)
            have HY' : Hid ((cn l i (k + 1) false : Int) = (Y : Int)) := Lib.hid (by rw [s2]; simp)
            clear s1 s2
            obtain ⟨⟨p1, p2⟩, _⟩ := prods (a := (X : Int) + 1) (by omega) (by omega) d0 d9
            obtain ⟨_, p3, p4⟩ := prods (a := (Y : Int) + 1) (by omega) (by omega) d0 d9
            obtain ⟨⟨p5, p6⟩, _⟩ := prods (a := (Y : Int)) (by omega) (by omega) d0 d9
            obtain ⟨_, p7, p8⟩ := prods (a := (X : Int) + 1 + 1) (by omega) (by omega) d0 d9
            by_cases q1 : ((Y : Int) + 1) * (1000 + d) < ((X : Int) + 1) * (1000 - d)
            · have q1' : decide (((Y : Int) + 1) * (1000 + d) < ((X : Int) + 1) * (1000 - d)) = true := by simpa using q1
              go_wp2
              go_ret
              exact ⟨false, rfl, by simp, rfl⟩
            · have q1' : decide (((Y : Int) + 1) * (1000 + d) < ((X : Int) + 1) * (1000 - d)) = false := by simpa using q1
              by_cases q2 : ((X : Int) + 1 + 1) * (1000 + d) < ((Y : Int)) * (1000 - d)
              · have q2' : decide (((X : Int) + 1 + 1) * (1000 + d) < ((Y : Int)) * (1000 - d)) = true := by simpa using q2
                go_wp2
                go_ret
                exact ⟨false, rfl, by simp, rfl⟩
              · have q2' : decide (((X : Int) + 1 + 1) * (1000 + d) < ((Y : Int)) * (1000 - d)) = false := by simpa using q2
                have hok : Hid (Ok l d i (k + 1)) := Lib.hid (by unfold Ok; rw [HX'.out, HY'.out]; omega)
                go_wp2
                go_roundw
                case rel => exact ⟨k + 1, by omega, by omega, by rw [HX'.out], by rw [HY'.out], by go_num, Lib.hid (HOk.out hok.out), trivial⟩
                case measure => simp [intOf]; omega
        · have HO2 : Hid (∀ i' k, i' < i + 1 → i' ≤ k → k ≤ n → Ok l d i' k) := Lib.hid fun i' k' h1 h2 h3 => by
            by_cases e : i' = i
            · rw [e] at h2 ⊢; exact HK.out k' h2 (by omega)
            · exact HO.out i' k' (by omega) h2 h3
          generalize cn l i k true = X at *
          generalize cn l i k false = Y at *
          clear HK
          go_wp2
          go_roundw
          case rel => exact ⟨i + 1, by omega, by go_num, HO2, trivial⟩
          case measure => simp [intOf]; omega
    · have HGo : Hid (Go l d) := Lib.hid ⟨⟨d0, d9⟩, fun i' k' h1 h2 => by
        have hL := HL.out
        by_cases e : i' < i
        · exact HO.out i' k' e h1 (by omega)
        · rw [show k' = i' by omega]; exact ok_self d0 _⟩
      clear HO
      go_wp2
      go_ret
      exact ⟨true, rfl, fun _ => HGo.out, rfl⟩
end Go.Proofs.Ytlicofdklfbkoaa.Le
