/-
  All that a device holds, as strings.
-/
import Derived.Test.YtbmgaopdahlkkaaLog12
namespace Go.Proofs.Ytbmgaopdahlkkaa
open Go.RowKit
set_option linter.unusedVariables false
set_option linter.unusedSimpArgs false
set_option maxRecDepth 20000

variable {dB sB mB n : Nat} {d : M.Dv}

def seenL (d : M.Dv) (k : Nat) : List ByteArray := (List.range k).map fun i => str (M.seen d i)
theorem seenL_succ (d : M.Dv) (k : Nat) : seenL d (k + 1) = seenL d k ++ [str (M.seen d k)] := by unfold seenL; rw [List.range_succ, List.map_append]; rfl
theorem seenL_len (d : M.Dv) (k : Nat) : (seenL d k).length = k := by simp [seenL]
theorem seenL_get {d : M.Dv} {k i : Nat} (h : i < k) : (seenL d k)[i]? = some (str (M.seen d i)) := by simp [seenL, h]

set_option maxHeartbeats 2000000 in
theorem sectors_all (w : World) (hd : DevAt w dB sB mB n d) (hdead : d.dead = false) :
    Calls Try.prog 20 #[.pointer (some ⟨dB, 0, none⟩)] w fun e w' => ∃ a cap, e = .returned (.slice a n cap) ∧ C.Own 9 w' w.heap.size a n cap (C.strs (seenL d n)) ∧ Below w.heap.size w w' := by
  have hn := hd.n512
  have HS : Hid (∀ w', Below w.heap.size w w' → Calls Try.prog 27 #[.pointer (some ⟨dB, 0, none⟩)] w' fun e w'' => e = .returned (.int .i64 n) ∧ w' = w'') := Lib.hid fun w' hb => sectors_any w' (hd.but (But.of_below hb) (by simp) (by simp) (by simp))
  have HR : Hid (∀ w' (k : Nat), k < n → Below w.heap.size w w' → Calls Try.prog 22 #[.pointer (some ⟨dB, 0, none⟩), .int .i64 (k : Int)] w' fun e w'' => ∃ bR, e = .returned (.tuple #[.slice (some ⟨bR, 0, none⟩) 144 144, .int .i64 0]) ∧ (convert 47 9 (.slice (some ⟨bR, 0, none⟩) 144 144)).run Try.prog w'' = .ok (.string (str (M.seen d k))) w'' ∧ Below w'.heap.size w' w'') := Lib.hid fun w' k hk hb => by
    have hdv := hd.but (But.of_below hb) (by simp) (by simp) (by simp)
    refine (read_yes w' hdv k (by unfold M.reach; rw [hdead, if_neg (by simp), if_neg (by omega)])).mono ?_
    rintro e w'' ⟨bR, rfl, hbR, hltR, hrg, _, hb1⟩
    refine ⟨bR, rfl, ?_, hb1⟩
    have := row_range (cap := 144) hrg hltR (by rw [u8s_length, seen_len hdv.wf]; omega) (by simp [maxLen])
    rw [u8s_length, seen_len hdv.wf] at this
    exact conv_row this
  have Hn := Lib.hid hn
  have hnI : (n : Int) ≤ 512 := by omega
  have H0 : Hid (C.Own 9 (w.alloc (.cells #[] 9)) w.heap.size (some ⟨w.heap.size, 0, none⟩) 0 0 (C.strs (seenL d 0))) := Lib.hid (C.own_lit 9 w w.heap.size [] (Nat.le_refl _) (by simp))
  clear hd hdead hn
  go_enter Try.func20, Try.ntmps20
  go_wp2_with fail
  go_loopw [3, 4] (fun s i wr => ∃ (k : Nat) (a : Option Addr) (cap : Nat), k ≤ n ∧ s = .slice a k cap ∧ i = .int .i64 k ∧ C.Own 9 wr w.heap.size a k cap (C.strs (seenL d k)) ∧ Below w.heap.size w wr) (fun _ i _ => n - (intOf i).toNat)
  case atStart => exact ⟨0, _, 0, by omega, rfl, rfl, H0.out, (Below.refl _ w).alloc (Nat.le_refl _) _⟩
  case round =>
    obtain ⟨k, a, cap, hk, rfl, rfl, hown, hb⟩ := hrel
    have HO := Lib.hid hown
    have HB := Lib.hid hb
    clear hown hb
    by_cases hlt : k < n
    · have hltI : (k : Int) < (n : Int) := by omega
      have HLt := Lib.hid hlt
      clear hlt
      go_wp2_with (first
        | (go_at_call 27; with_reducible refine (HS.out _ HB.out).mono ?_; rintro e w' ⟨rfl, rfl⟩)
        | (go_at_call 22; with_reducible refine (HR.out _ k HLt.out HB.out).mono ?_; rintro e w2 ⟨bR, rfl, kc, hb2⟩
           have HB2 : Hid (Below w.heap.size w w2) := Lib.hid (HB.out.trans (hb2.mono HB.out.size))
           have HO2 := Lib.hid (C.own_below HO.out hb2 (Nat.le_refl _))
           clear hb2)
        | (at_builtin
           refine wpList_append_one _ rfl (.tmp 20) (.tmp 23) rfl w.heap.size a k cap (seenL d k) rfl (C.own_below HO2.out ((Below.refl _ w2).alloc (Nat.le_refl _) _) (Nat.le_refl _)) (str (M.seen d k)) _ 1 rfl (C.row_str_new w2 (str (M.seen d k))) (by have := Hn.out; have := HLt.out; omega) (by have := HB2.out.size; simp; omega) ?_
           intro a2 cap2 w3 hown3 hb3
           have HO3 := Lib.hid hown3
           have HB3 : Hid (Below w.heap.size w w3) := Lib.hid ((HB2.out.alloc HB2.out.size _).trans hb3)
           clear hown3 hb3))
      go_roundw
      case rel => exact ⟨k + 1, a2, cap2, by have := HLt.out; omega, rfl, by go_num, by rw [seenL_succ]; exact HO3.out, HB3.out⟩
      case measure => have := HLt.out; simp [intOf]; omega
    · have hke : k = n := by omega
      have hltI : ¬ (k : Int) < (n : Int) := by omega
      subst hke
      clear hlt
      go_wp2_with (go_at_call 27; with_reducible refine (HS.out _ HB.out).mono ?_; rintro e w' ⟨rfl, rfl⟩)
      go_ret
      exact ⟨a, cap, rfl, HO.out, HB.out⟩
end Go.Proofs.Ytbmgaopdahlkkaa
