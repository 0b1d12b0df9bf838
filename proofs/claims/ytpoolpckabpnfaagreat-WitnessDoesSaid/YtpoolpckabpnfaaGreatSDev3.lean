/-
  What Write, Read and Barrier tell, and what becomes of the device in memory.
-/
import Derived.Test.YtpoolpckabpnfaaGreatSDev2
namespace Go.Proofs.YtpoolpckabpnfaaGreat
open Go.RowKit Go.Maps
set_option linter.unusedVariables false
set_option linter.unusedSimpArgs false
set_option maxRecDepth 20000

variable {dB sB mB n : Nat} {d : M.Dv}

theorem reach_bounds {i : Int} (h : M.reach n d i = 0) : 0 ≤ i ∧ i < (n : Int) ∧ d.dead = false := by
  unfold M.reach at h
  cases hd : d.dead with
  | true => rw [hd] at h; simp at h
  | false =>
    by_cases hc : i < 0 ∨ (n : Int) ≤ i
    · rw [hd] at h; simp [hc] at h
    · exact ⟨by omega, by omega, rfl⟩

set_option maxHeartbeats 1000000 in
theorem write_any (w : World) (h : DevAt w dB sB mB n d) (i : Int) (hi1 : -9223372036854775808 ≤ i) (hi2 : i ≤ 9223372036854775807) (aB : Option Addr) (m c : Nat) (l : List UInt8) (hr : Row w aB m c (u8s l)) (hnb : u8s l = [] ∨ ∀ b off, aB = some ⟨b, off, none⟩ → b ∉ [dB]) :
    Calls Tryz.prog 19 #[.pointer (some ⟨dB, 0, none⟩), .int .i64 i, .slice aB m c] w fun e w' => e = .returned (.int .i64 (M.writeE n d i l)) ∧ DevAt w' dB sB mB n (M.writeD n d i l) ∧ But [dB, mB] w w' := by
  have hml : m = l.length := by rw [← hr.1, u8s_length]
  have HR := Lib.hid (reach_any w h i hi1 hi2)
  have HD := Lib.hid h
  unfold M.writeE M.writeD
  by_cases c1 : M.reach n d i = 0
  · rw [c1] at HR
    simp only [if_pos c1]
    obtain ⟨b1, b2, b3⟩ := reach_bounds c1
    have Hc1 := Lib.hid c1
    clear c1
    by_cases c2 : 144 < l.length
    · simp only [if_pos c2]
      have c2' : (144 : Int) < (m : Int) := by omega
      have Hml := Lib.hid hml
      clear hml c2 hr h
      go_enter Tryz.func19, Tryz.ntmps19
      go_wp2_with (go_at_call 45; refine HR.out.mono ?_; rintro e w' ⟨rfl, rfl⟩)
      go_ret
      exact ⟨rfl, HD.out, But.refl _ _⟩
    · simp only [if_neg c2]
      have c2' : ¬ (144 : Int) < (m : Int) := by omega
      have c3' : (m : Int) ≤ 144 := by omega
      have HA := Lib.hid (act_any w h)
      unfold M.actE at HA ⊢
      by_cases c4 : d.fuse = 0
      · simp only [if_pos c4] at HA ⊢
        have Hml := Lib.hid hml
        clear hml c2 hr h c4
        go_enter Tryz.func19, Tryz.ntmps19
        go_wp2_with (first
          | (go_at_call 45; refine HR.out.mono ?_; rintro e w' ⟨rfl, rfl⟩)
          | (go_at_call 46; refine HA.out.mono ?_; rintro e w1 ⟨rfl, hd1, hb1⟩; have HD1 := Lib.hid hd1; have HB1 := Lib.hid hb1; clear hd1 hb1))
        go_ret
        exact ⟨rfl, HD1.out, HB1.out.mono (by simp)⟩
      · simp only [if_neg c4] at HA ⊢
        have Hml := Lib.hid hml
        have HRow := Lib.hid hr
        clear hml c2 hr h c4
        go_enter Tryz.func19, Tryz.ntmps19
        go_wp2_with (first
          | (go_at_call 45; refine HR.out.mono ?_; rintro e w' ⟨rfl, rfl⟩)
          | (go_at_call 46; refine HA.out.mono ?_; rintro e w1 ⟨rfl, hd1, hb1⟩; have HD1 := Lib.hid hd1; have HB1 := Lib.hid hb1; clear hd1 hb1)
          | (refine wpList_alloc_sec rfl rfl ?_; intro w2 hw2
             obtain ⟨g1, g2, g3, g4⟩ := sec_new w1 hw2
             have HD2 := Lib.hid (HD1.out.but (g4 []) (by simp) (by simp) (by simp))
             have HB2 := Lib.hid (HB1.out.trans (g4 _))
             have HRow2 := Lib.hid (row_but HRow.out HB2.out hnb)
             have Hg := Lib.hid (And.intro g1 (And.intro g2 g3))
             have HHD := Lib.hid (And.intro HD1.out.ltD HD1.out.pend.lt)
             clear hw2 g1 g2 g3 g4)
          | (refine wpList_copy_row rfl (.tmp 24) (.tmp 25) rfl w1.heap.size 0 144 144 rfl aB m c rfl l HRow2.out (by omega) Hg.out.2.1 ?_))
        have hm1 := HD2.out.map
        have hrg : (w2.setCells w1.heap.size 0 (u8s l)).rangeAt w1.heap.size 0 (u8s (M.pad l)) := by
          have := range_over Hg.out.1 (by rw [M.zero_len]; exact Hg.out.2.1) (l := l) (by rw [M.zero_len]; have := Hml.out; omega)
          unfold M.zero at this
          rw [List.drop_replicate] at this
          exact this
        have hne : w1.heap.size ≠ dB := by have := Hg.out.2.2; have := HHD.out.1; omega
        have hm2 : (w2.setCells w1.heap.size 0 (u8s l)).cell? ⟨dB, 1, none⟩ = some (.map (some mB)) := by
          rw [World.cell?_of_block (w := w2) (a := ⟨dB, 1, none⟩) (heap_setCells _ _ _ _ _ (Ne.symm hne))]; exact hm1
        clear hm1 hne
        have hpl : (M.pad l).length = 144 := M.pad_len (by have := Hml.out; omega)
        have HPL := Lib.hid hpl
        have HRG := Lib.hid hrg
        clear hpl hrg
        have HB3 := Lib.hid (HB2.out.sets w1.heap.size 0 (u8s l) (.inr HB1.out.size))
        have HD3 : Hid (DevAt (w2.setCells w1.heap.size 0 (u8s l)) dB sB mB n (M.actD d)) := Lib.hid (HD2.out.but ((But.refl [w1.heap.size] w2).sets w1.heap.size 0 (u8s l) (.inl (by simp))) (by have := HHD.out.1; simp; omega) (by have := HD1.out.lt; simp; omega) (by have := HHD.out.2; simp; omega))
        generalize w2.setCells w1.heap.size 0 (u8s l) = w3 at *
        refine wp_region_still_tail 6 (by kernel_rfl) (by kernel_rfl) ?_
        simp only [List.take_succ_cons, List.take_zero, List.drop_succ_cons, List.drop_zero]
        iterate 5 still_step
        refine wpStill_load_sec rfl (.tmp 9) rfl w1.heap.size 0 rfl (M.pad l) HPL.out (rangeAt_block HRG.out rfl) ?_
        refine wpStill_nil ?_
        have HD4 := Lib.hid HD3.out.drew
        have HB4 := Lib.hid HB3.out.drew
        refine wpList_update_sec rfl (.tmp 30) (.tmp 31) (.tmp 32) rfl mB rfl i rfl (M.pad l) rfl (P := (M.actD d).P) HD4.out.pend n (fun k s hk => ⟨(HD4.out.wf.pend k s hk).1, (HD4.out.wf.pend k s hk).2.1⟩) (by have := HD4.out.n512; omega) hi1 hi2 HPL.out ?_
        intro w4 hm4 hb4
        have HD5 := Lib.hid (HD4.out.setMap hb4 hm4 (fun k s hk => by
          simp only [M.upd] at hk
          split at hk
          · rename_i e
            injection hk with hk
            subst hk
            subst e
            exact ⟨b1, b2, HPL.out⟩
          · exact HD4.out.wf.pend k s hk))
        have HB5 : Hid (But [dB, mB] w w4) := Lib.hid ((HB4.out.mono (by simp)).trans (hb4.mono (by simp)))
        clear hm4 hb4
        go_wp2
        go_ret
        refine ⟨rfl, ?_, ?_⟩
        · have := HD5.out
          rw [M.act_P] at this
          exact this
        · exact HB5.out
  · simp only [if_neg c1]
    generalize he : M.reach n d i = e0 at HR c1 ⊢
    have hne : (e0 != 0) = true := by simpa using c1
    have hne2 : (e0 == 0) = false := by simpa using c1
    have He := Lib.hid he
    clear he c1 hr h hml
    go_enter Tryz.func19, Tryz.ntmps19
    go_wp2_with (go_at_call 45; refine HR.out.mono ?_; rintro e w' ⟨rfl, rfl⟩)
    go_ret
    exact ⟨rfl, HD.out, But.refl _ _⟩

/-- what a sector reads as -/
def M.seen (d : M.Dv) (i : Nat) : List UInt8 := (d.P i).getD (d.S i)

set_option maxHeartbeats 1000000 in
theorem read_no (w : World) (h : DevAt w dB sB mB n d) (i : Int) (hi1 : -9223372036854775808 ≤ i) (hi2 : i ≤ 9223372036854775807) (hr : M.reach n d i ≠ 0) :
    Calls Tryz.prog 25 #[.pointer (some ⟨dB, 0, none⟩), .int .i64 i] w fun e w' => e = .returned (.tuple #[.slice none 0 0, .int .i64 (M.reach n d i)]) ∧ w = w' := by
  have HR := Lib.hid (reach_any w h i hi1 hi2)
  generalize he : M.reach n d i = e0 at HR hr ⊢
  have hne : (e0 != 0) = true := by simpa using hr
  have hne2 : (e0 == 0) = false := by simpa using hr
  have He := Lib.hid he
  clear he hr h
  go_enter Tryz.func25, Tryz.ntmps25
  go_wp2_with (go_at_call 45; refine HR.out.mono ?_; rintro e w' ⟨rfl, rfl⟩)
  go_ret2
  exact ⟨rfl, rfl⟩

set_option maxHeartbeats 1000000 in
/-- a sector that is there is read into 144 bytes of its own -/
theorem read_yes (w : World) (h : DevAt w dB sB mB n d) (i : Nat) (hr : M.reach n d i = 0) :
    Calls Tryz.prog 25 #[.pointer (some ⟨dB, 0, none⟩), .int .i64 i] w fun e w' => ∃ b, e = .returned (.tuple #[.slice (some ⟨b, 0, none⟩) 144 144, .int .i64 0]) ∧ w.heap.size ≤ b ∧ b < w'.heap.size ∧
      w'.rangeAt b 0 (u8s (M.seen d i)) ∧ w'.there b 0 144 ∧ Below w.heap.size w w' := by
  obtain ⟨b1, b2, b3⟩ := reach_bounds hr
  have hi512 := h.n512
  have HR := Lib.hid (reach_any w h i (by omega) (by omega))
  rw [hr] at HR
  have HD := Lib.hid h
  have hmap := h.map
  have hsec := h.sec
  obtain ⟨hl1, _⟩ := mapis_look h.pend (i := (i : Int)) (by omega) (by omega)
  have hlen : ((d.P i).getD M.zero).length = 144 := by
    cases hp : d.P i with
    | none => exact M.zero_len
    | some s => exact (h.wf.pend _ _ hp).2.2
  have Hlen := Lib.hid hlen
  have Hr := Lib.hid hr
  have hin : i < n := by omega
  clear hr h hlen
  unfold M.seen
  cases hp : d.P i with
  | none =>
    rw [hp] at hl1
    simp only [Option.getD_none, Option.isSome_none] at hl1 ⊢
    have HP := Lib.hid hp
    clear hp
    have HS := Lib.hid (HD.out.bytes i hin)
    have HSl := Lib.hid (HD.out.wf.len i)
    generalize d.S i = s at HS HSl ⊢
    go_enter Tryz.func25, Tryz.ntmps25
    go_wp2_with (first
      | (go_at_call 45; refine HR.out.mono ?_; rintro e w' ⟨rfl, rfl⟩)
      | (refine wpList_alloc_sec rfl rfl ?_; intro w2 hw2
         obtain ⟨g1, g2, g3, g4⟩ := sec_new w hw2
         have Hg := Lib.hid (And.intro g1 (And.intro g2 (And.intro g3 (g4 []))))
         clear hw2 g1 g2 g3 g4)
      | (refine wpList_store_sec rfl (.tmp 7) (.tmp 22) rfl w.heap.size 0 rfl M.zero rfl M.zero_len Hg.out.2.1 ?_
         have Hn := Lib.hid (World.there_setCells Hg.out.2.1 w.heap.size 0 (u8s M.zero))
         have hb3 := (Hg.out.2.2.2.mono (m := [w.heap.size]) (by simp)).sets w.heap.size 0 (u8s M.zero) (.inl (by simp))
         have HB3 := Lib.hid hb3
         have hsec3 : (w2.setCells w.heap.size 0 (u8s M.zero)).cell? ⟨dB, 0, none⟩ = some (.slice (some ⟨sB, 0, none⟩) n n) := by
           rw [hb3.cell HD.out.ltD (by have := HD.out.ltD; simp; omega)]; exact hsec
         have Hz3 := Lib.hid (show (w2.setCells w.heap.size 0 (u8s M.zero)).heap.size = w.heap.size + 1 by rw [size_setCells]; exact Hg.out.2.2.1)
         clear hb3
         generalize w2.setCells w.heap.size 0 (u8s M.zero) = w3 at *)
      | (refine wpList_load_sec rfl (.tmp 31) rfl sB (i * 144) rfl s HSl.out (rangeAt_block HS.out (HB3.out.block _ HD.out.lt (by have := HD.out.lt; simp; omega))) ?_)
      | (refine wpList_store_sec rfl (.tmp 7) (.tmp 32) rfl w.heap.size 0 rfl s rfl HSl.out Hn.out ?_))
    go_ret2
    have hb4 := HB3.out.sets w.heap.size 0 (u8s s) (.inl (by simp))
    refine ⟨w.heap.size, rfl, Nat.le_refl _, ?_, ?_, ?_, hb4.to_below (by simp) (Nat.le_refl _)⟩
    · rw [size_setCells, Hz3.out]; omega
    · have := World.rangeAt_setCells_same w3 w.heap.size 0 (u8s s) (by rw [u8s_length, HSl.out]; exact Hn.out)
      exact this
    · exact World.there_setCells Hn.out _ _ _
  | some s =>
    rw [hp] at hl1 Hlen
    simp only [Option.getD_some, Option.isSome_some] at hl1 Hlen ⊢
    have HP := Lib.hid hp
    clear hp
    go_enter Tryz.func25, Tryz.ntmps25
    go_wp2_with (first
      | (go_at_call 45; refine HR.out.mono ?_; rintro e w' ⟨rfl, rfl⟩)
      | (refine wpList_alloc_sec rfl rfl ?_; intro w2 hw2
         obtain ⟨g1, g2, g3, g4⟩ := sec_new w hw2
         have Hg := Lib.hid (And.intro g1 (And.intro g2 (And.intro g3 (g4 [w.heap.size]))))
         clear hw2 g1 g2 g3 g4)
      | (refine wpList_store_sec rfl (.tmp 7) (.tmp 22) rfl w.heap.size 0 rfl s rfl Hlen.out Hg.out.2.1 ?_))
    go_ret2
    have hb4 := Hg.out.2.2.2.sets w.heap.size 0 (u8s s) (.inl (by simp))
    refine ⟨w.heap.size, rfl, Nat.le_refl _, ?_, ?_, ?_, hb4.to_below (by simp) (Nat.le_refl _)⟩
    · rw [size_setCells, Hg.out.2.2.1]; omega
    · exact World.rangeAt_setCells_same w2 w.heap.size 0 (u8s s) (by rw [u8s_length, Hlen.out]; exact Hg.out.2.1)
    · exact World.there_setCells Hg.out.2.1 _ _ _
end Go.Proofs.YtpoolpckabpnfaaGreat
