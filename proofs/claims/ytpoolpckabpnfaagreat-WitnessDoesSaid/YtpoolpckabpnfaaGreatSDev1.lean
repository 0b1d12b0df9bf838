/-
  What the device's smaller methods tell, and what becomes of the device in memory.
-/
import Derived.Test.YtpoolpckabpnfaaGreatSPend
import Derived.Deep.QuietTactic
import Derived.BigQuiet
namespace Go.Proofs.YtpoolpckabpnfaaGreat
open Go.RowKit Go.Maps
set_option linter.unusedVariables false
set_option linter.unusedSimpArgs false
set_option maxRecDepth 20000

variable {dB sB mB n : Nat} {d : M.Dv}

theorem sectors_any (w : World) (h : DevAt w dB sB mB n d) : Calls Tryz.prog 68 #[.pointer (some ⟨dB, 0, none⟩)] w fun e w' => e = .returned (.int .i64 n) ∧ w = w' := by
  have h1 := h.sec
  clear h
  go_enter Tryz.func68, Tryz.ntmps68
  go_wp2
  go_ret
  exact ⟨rfl, rfl⟩

theorem fuse_any (w : World) (h : DevAt w dB sB mB n d) (k : Int) (hk1 : -9223372036854775808 ≤ k) (hk2 : k ≤ 9223372036854775807) :
    Calls Tryz.prog 17 #[.pointer (some ⟨dB, 0, none⟩), .int .i64 k] w fun e w' => e = .returned (.tuple #[]) ∧ DevAt w' dB sB mB n (M.fuseD d k) ∧ But [dB] w w' := by
  have H := Lib.hid (h.setFuse hk1 hk2)
  have h1 := h.fuse
  have h2 := h.fz 3
  clear h
  go_enter Tryz.func17, Tryz.ntmps17
  go_wp2
  go_end0
  exact ⟨rfl, H.out, (But.refl _ _).set _ (.inl (by simp))⟩

theorem reach_any (w : World) (h : DevAt w dB sB mB n d) (i : Int) (hi1 : -9223372036854775808 ≤ i) (hi2 : i ≤ 9223372036854775807) :
    Calls Tryz.prog 45 #[.pointer (some ⟨dB, 0, none⟩), .int .i64 i] w fun e w' => e = .returned (.int .i64 (M.reach n d i)) ∧ w = w' := by
  have h1 := h.dead
  have h2 := h.sec
  have H5 := Lib.hid h.n512
  clear h
  unfold M.reach
  cases hd : d.dead with
  | true =>
    rw [hd] at h1
    have Hd := Lib.hid hd
    clear hd
    go_enter Tryz.func45, Tryz.ntmps45
    go_wp2
    go_ret
    exact ⟨rfl, rfl⟩
  | false =>
    rw [hd] at h1
    have Hd := Lib.hid hd
    clear hd
    by_cases c1 : i < 0
    · have e : (if i < 0 ∨ (n : Int) ≤ i then (2 : Int) else 0) = 2 := if_pos (.inl c1)
      simp only [e, Bool.false_eq_true, if_false]
      clear e
      go_enter Tryz.func45, Tryz.ntmps45
      go_wp2
      go_ret
      exact ⟨rfl, rfl⟩
    · by_cases c2 : (n : Int) ≤ i
      · have e : (if i < 0 ∨ (n : Int) ≤ i then (2 : Int) else 0) = 2 := if_pos (.inr c2)
        simp only [e, Bool.false_eq_true, if_false]
        clear e
        have c1' : (0 : Int) ≤ i := by omega
        clear c1
        go_enter Tryz.func45, Tryz.ntmps45
        go_wp2
        go_ret
        exact ⟨rfl, rfl⟩
      · have e : (if i < 0 ∨ (n : Int) ≤ i then (2 : Int) else 0) = 0 := if_neg (by omega)
        simp only [e, Bool.false_eq_true, if_false]
        clear e
        have c1' : (0 : Int) ≤ i := by omega
        have c2' : i < (n : Int) := by omega
        clear c1 c2
        go_enter Tryz.func45, Tryz.ntmps45
        go_wp2
        go_ret
        exact ⟨rfl, rfl⟩

theorem act_any (w : World) (h : DevAt w dB sB mB n d) :
    Calls Tryz.prog 46 #[.pointer (some ⟨dB, 0, none⟩)] w fun e w' => e = .returned (.int .i64 (M.actE d)) ∧ DevAt w' dB sB mB n (M.actD d) ∧ But [dB] w w' := by
  have h1 := h.fuse
  have h2 := h.fz 2
  have h3 := h.fz 3
  have h4 := h.dead
  have hlo := h.wf.lo
  have hhi := h.wf.hi
  have H := Lib.hid h
  clear h
  unfold M.actE M.actD
  by_cases c0 : d.fuse = 0
  · have K := Lib.hid (H.out.setDead true)
    simp only [if_pos c0]
    rw [c0] at h1
    clear c0 hlo hhi
    go_enter Tryz.func46, Tryz.ntmps46
    go_wp2
    go_ret
    exact ⟨rfl, K.out, (But.refl _ _).set _ (.inl (by simp))⟩
  · simp only [if_neg c0]
    by_cases c1 : 0 < d.fuse
    · have K := Lib.hid (H.out.setFuse (k := d.fuse - 1) (by omega) (by omega))
      simp only [if_pos c1]
      clear c0
      go_enter Tryz.func46, Tryz.ntmps46
      go_wp2
      go_ret
      exact ⟨rfl, K.out, (But.refl _ _).set _ (.inl (by simp))⟩
    · simp only [if_neg c1]
      have c2 : d.fuse < 0 := by omega
      clear c0 c1
      go_enter Tryz.func46, Tryz.ntmps46
      go_wp2
      go_ret
      exact ⟨rfl, H.out, But.refl _ _⟩

theorem kept_any (w : World) (a b : Int) : Calls Tryz.prog 43 #[.agg #[.int .i64 a, .int .i64 b]] w fun e w' => e = .returned (.int .i64 (M.keptN a b)) ∧ Below w.heap.size w w' := by
  unfold M.keptN
  by_cases c1 : a = 1
  · simp only [if_pos c1]
    subst c1
    go_enter Tryz.func43, Tryz.ntmps43
    go_wp2
    go_ret
    exact ⟨rfl, (Below.refl _ _).alloc (Nat.le_refl _) _⟩
  · by_cases c2 : a = 2
    · have e : (if a = 1 then 144 else if a = 2 then (min (max b 0) 144).toNat else 0) = (min (max b 0) 144).toNat := by rw [if_neg c1, if_pos c2]
      rw [e]
      clear e c1
      subst c2
      have e : ((min (max b 0) 144).toNat : Int) = min (max b 0) 144 := by omega
      rw [e]
      clear e
      go_enter Tryz.func43, Tryz.ntmps43
      go_wp2
      go_ret
      exact ⟨rfl, (Below.refl _ _).alloc (Nat.le_refl _) _⟩
    · have e : (if a = 1 then 144 else if a = 2 then (min (max b 0) 144).toNat else 0) = 0 := by rw [if_neg c1, if_neg c2]
      rw [e]
      clear e
      go_enter Tryz.func43, Tryz.ntmps43
      go_wp2
      go_ret
      exact ⟨rfl, (Below.refl _ _).alloc (Nat.le_refl _) _⟩


theorem restart_any (w : World) (h : DevAt w dB sB mB n d) :
    Calls Tryz.prog 44 #[.pointer (some ⟨dB, 0, none⟩)] w fun e w' => e = .returned (.tuple #[]) ∧ DevAt w' dB sB mB n ⟨d.S, fun _ => none, false, -1⟩ ∧ But [dB, mB] w w' := by
  obtain ⟨w1, hrun, hm, hb⟩ := mapis_clear h.pend 1
  have hc : ∀ ty, (Builtin.clear_ #[60] ty #[.map (some mB)]).run Tryz.prog w = .ok (.tuple #[]) w1 := fun ty => hrun
  have K := h.setMap hb hm (fun k s hk => by simp at hk)
  have h1 := h.map
  have h2 := K.dead
  have h3 := K.fuse
  have h4 := K.fz 2
  have h5 := K.fz 3
  have HK := Lib.hid ((K.setDead false).setFuse (k := -1) (by omega) (by omega))
  have HB := Lib.hid hb
  clear h K hrun hm hb
  go_enter Tryz.func44, Tryz.ntmps44
  go_wp2
  go_end0
  exact ⟨rfl, HK.out, ((HB.out.mono (by simp)).set _ (.inl (by simp))).set _ (.inl (by simp))⟩

end Go.Proofs.YtpoolpckabpnfaaGreat
