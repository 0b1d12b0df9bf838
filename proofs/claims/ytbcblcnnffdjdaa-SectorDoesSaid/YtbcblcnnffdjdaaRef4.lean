/-
  What the document's own Barrier makes of its device in memory.
-/
import Derived.Test.YtbcblcnnffdjdaaRef3
namespace Go.Proofs.Ytbcblcnnffdjdaa
open Go.RowKit Go.Maps
set_option linter.unusedVariables false
set_option linter.unusedSimpArgs false
set_option maxRecDepth 20000

variable {rB LB n : Nat} {d : M.Dv}

/-- sector i becomes sure, with bytes s -/
def M.setS (d : M.Dv) (i : Nat) (s : M.Sec) : M.Dv := { d with S := fun j => if j = i then s else d.S j, P := fun q => if q = (i : Int) then none else d.P q }

theorem RefAt.setS {w : World} (h : RefAt w rB LB n d) {i : Nat} (hi : i < n) {s : M.Sec} (hs : s.length = 144) : RefAt (w.setCells LB (i * 289) (sec3 s M.zero false)) rB LB n (M.setS d i s) := by
  have hin : i * 289 + 289 ≤ n * 289 := by have : (i + 1) * 289 ≤ n * 289 := Nat.mul_le_mul_right _ hi; omega
  have h1 := heap_setCells LB (sec3 s M.zero false) (i * 289) w rB h.ne
  have hvl : (sec3 s M.zero false).length = 289 := sec3_len hs M.zero_len
  exact { sec := by rw [World.cell?_of_block (w := w) (a := ⟨rB, 0, none⟩) h1]; exact h.sec
          dead := by rw [World.cell?_of_block (w := w) (a := ⟨rB, 1, none⟩) h1]; exact h.dead
          fuse := by rw [World.cell?_of_block (w := w) (a := ⟨rB, 2, none⟩) h1]; exact h.fuse
          fz := fun o => by rw [World.frozen?_of_block (w := w) (a := ⟨rB, o, none⟩) h1]; exact h.fz o
          ne := h.ne
          lt := by rw [size_setCells]; exact h.lt
          secs := fun j hj => by
            by_cases e : j = i
            · subst e
              have hall := World.rangeAt_setCells_same w LB (j * 289) (sec3 s M.zero false) (fun k hk => by
                rw [hvl] at hk
                have := h.there (j * 289 + k) (by omega)
                rw [Nat.zero_add] at this
                exact this)
              have e1 : (M.setS d j s).S j = s := by simp [M.setS]
              have e2 : (M.setS d j s).P (j : Int) = none := by simp [M.setS]
              refine ⟨fun k v hk => ?_, ⟨M.zero, M.zero_len, fun k v hk => ?_, fun s' hs' => by rw [e2] at hs'; cases hs'⟩, ?_⟩
              · rw [e1] at hk
                exact hall k v (by unfold sec3; rw [List.getElem?_append_left (List.getElem?_eq_some_iff.1 hk).1]; exact hk)
              · rw [Nat.add_assoc]
                exact hall (144 + k) v (by unfold sec3; rw [app_get hs _ (by omega), show 144 + k - 144 = k by omega, List.getElem?_append_left (List.getElem?_eq_some_iff.1 hk).1]; exact hk)
              · rw [e2]
                exact hall 288 _ (by unfold sec3; rw [app_get hs _ (by omega), app_get M.zero_len _ (by omega)]; rfl)
            · have hb := (h.secs j hj).apart (h.wf.len j) (i := i) (o := i * 289) (sec3 s M.zero false) e (by omega) (by rw [hvl]; omega)
              obtain ⟨g1, g2, g3⟩ := hb
              have e1 : (M.setS d i s).S j = d.S j := by simp [M.setS, e]
              have e2 : (M.setS d i s).P (j : Int) = d.P (j : Int) := by
                unfold M.setS
                exact if_neg (by omega)
              exact ⟨by rw [e1]; exact g1, by rw [e2]; exact g2, by rw [e2]; exact g3⟩
          there := World.there_setCells h.there _ _ _
          wf := ⟨fun j => by
              show (if j = i then s else d.S j).length = 144
              split
              · exact hs
              · exact h.wf.len j, fun k s' hk => by
              have hk : (if k = (i : Int) then none else d.P k) = some s' := hk
              split at hk
              · cases hk
              · exact h.wf.pend k s' hk, h.wf.lo, h.wf.hi⟩
          n512 := h.n512 }

/-- the first k sectors are sure -/
def M.sureU (k : Nat) (d : M.Dv) : M.Dv := { d with S := fun j => if j < k then M.sure d j else d.S j, P := fun q => if q < (k : Int) then none else d.P q }

theorem RefAt.zeroU {w : World} (h : RefAt w rB LB n d) : RefAt w rB LB n (M.sureU 0 d) :=
  h.same (fun i => by simp [M.sureU]) (fun q => by
    unfold M.sureU
    show d.P q = if q < ((0 : Nat) : Int) then none else d.P q
    split
    · cases hp : d.P q with
      | none => rfl
      | some s => have := (h.wf.pend q s hp).1; omega
    · rfl) rfl rfl
theorem RefAt.endU {w : World} (h : RefAt w rB LB n (M.sureU n d)) (hw : M.Wf n d) : RefAt w rB LB n { d with S := M.sure d, P := fun _ => none } :=
  have hn : ∀ q, (n : Int) ≤ q → d.P q = none := fun q hq => by
    cases hp : d.P q with
    | none => rfl
    | some s => have := (hw.pend q s hp).2.1; omega
  h.same (fun i => by
    show (if i < n then M.sure d i else d.S i) = M.sure d i
    split
    · rfl
    · unfold M.sure; rw [hn i (by omega)]; rfl) (fun q => by
    show (if q < (n : Int) then none else d.P q) = none
    split
    · rfl
    · exact hn q (by omega)) rfl rfl
theorem RefAt.stepU {w : World} {k : Nat} {s : M.Sec} (h : RefAt w rB LB n (M.setS (M.sureU k d) k s)) (hp : d.P (k : Int) = some s) : RefAt w rB LB n (M.sureU (k + 1) d) :=
  h.same (fun i => by
    show (if i = k then s else if i < k then M.sure d i else d.S i) = if i < k + 1 then M.sure d i else d.S i
    by_cases e : i = k
    · subst e; rw [if_pos rfl, if_pos (by omega)]; unfold M.sure; rw [hp]; rfl
    · rw [if_neg e]
      by_cases e2 : i < k
      · rw [if_pos e2, if_pos (by omega)]
      · rw [if_neg e2, if_neg (by omega)]) (fun q => by
    show (if q = (k : Int) then none else if q < (k : Int) then none else d.P q) = if q < ((k + 1 : Nat) : Int) then none else d.P q
    by_cases e : q = (k : Int)
    · rw [if_pos e, if_pos (by omega)]
    · rw [if_neg e]
      by_cases e2 : q < (k : Int)
      · rw [if_pos e2, if_pos (by omega)]
      · rw [if_neg e2, if_neg (by omega)]) rfl rfl
theorem RefAt.skipU {w : World} {k : Nat} (h : RefAt w rB LB n (M.sureU k d)) (hp : d.P (k : Int) = none) : RefAt w rB LB n (M.sureU (k + 1) d) :=
  h.same (fun i => by
    show (if i < k then M.sure d i else d.S i) = if i < k + 1 then M.sure d i else d.S i
    by_cases e : i = k
    · subst e; rw [if_neg (by omega), if_pos (by omega)]; unfold M.sure; rw [hp]; rfl
    · by_cases e2 : i < k
      · rw [if_pos e2, if_pos (by omega)]
      · rw [if_neg e2, if_neg (by omega)]) (fun q => by
    show (if q < (k : Int) then none else d.P q) = if q < ((k + 1 : Nat) : Int) then none else d.P q
    by_cases e : q = (k : Int)
    · rw [e, if_neg (by omega), if_pos (by omega), hp]
    · by_cases e2 : q < (k : Int)
      · rw [if_pos e2, if_pos (by omega)]
      · rw [if_neg e2, if_neg (by omega)]) rfl rfl
theorem sureU_P (k : Nat) (d : M.Dv) : (M.sureU k d).P (k : Int) = d.P (k : Int) := by
  show (if (k : Int) < (k : Int) then none else d.P (k : Int)) = _
  rw [if_neg (by omega)]

set_option maxHeartbeats 2000000 in
theorem rbarrier_any (w : World) (h : RefAt w rB LB n d) :
    Calls Try.prog 16 #[.pointer (some ⟨rB, 0, none⟩)] w fun e w' => e = .returned (.int .i64 (M.barrierE d)) ∧ RefAt w' rB LB n (M.barrierD d) ∧ But [rB, LB] w w' := by
  have HD := Lib.hid h
  have hdead := h.dead
  have h512 := h.n512
  unfold M.barrierE M.barrierD
  cases hd : d.dead with
  | true =>
    rw [hd] at hdead
    simp only [if_true]
    clear hd h
    go_enter Try.func16, Try.ntmps16
    go_wp2
    go_ret
    exact ⟨rfl, HD.out, But.refl _ _⟩
  | false =>
    rw [hd] at hdead
    simp only [Bool.false_eq_true, if_false]
    have HA := Lib.hid (ract_any w h)
    unfold M.actE at HA ⊢
    by_cases c4 : d.fuse = 0
    · simp only [if_pos c4] at HA ⊢
      clear h c4 hd
      go_enter Try.func16, Try.ntmps16
      go_wp2_with (go_at_call 34; refine HA.out.mono ?_; rintro e w1 ⟨rfl, hd1, hb1⟩; have HD1 := Lib.hid hd1; have HB1 := Lib.hid hb1; clear hd1 hb1)
      go_ret
      exact ⟨rfl, HD1.out, HB1.out.mono (by simp)⟩
    · simp only [if_neg c4] at HA ⊢
      have HS : Hid ({ M.actD d with S := M.sure d, P := fun _ => none } = { M.actD d with S := M.sure (M.actD d), P := fun _ => none }) := Lib.hid (by unfold M.sure; rw [M.act_P, M.act_S])
      rw [HS.out]
      generalize M.actD d = d1 at HA ⊢
      clear h c4 hd HS
      go_enter Try.func16, Try.ntmps16
      go_wp2_with (go_at_call 34; refine HA.out.mono ?_; rintro e w1 ⟨rfl, hd1, hb1⟩; have HWf := Lib.hid hd1.wf; have HD1 := Lib.hid hd1.zeroU; have HB1 : Hid (But [rB, LB] w w1) := Lib.hid (hb1.mono (by simp)); clear hd1 hb1)
      go_loopw [4] (fun t wr => ∃ k : Nat, k ≤ n ∧ t = .int .i64 k ∧ RefAt wr rB LB n (M.sureU k d1) ∧ But [rB, LB] w wr) (fun t _ => n - (intOf t).toNat)
      case atStart => exact ⟨0, by omega, rfl, HD1.out, HB1.out⟩
      case round =>
        obtain ⟨k, hk, rfl, hdv, hbw⟩ := hrel
        have HDv := Lib.hid hdv
        have HBw := Lib.hid hbw
        have hsec3 := hdv.sec
        clear hdv hbw HD1 HB1
        have hk0 : (0 : Int) ≤ (k : Int) := by omega
        by_cases hke : k = n
        · subst hke
          go_wp2_with fail
          go_ret
          exact ⟨rfl, HDv.out.endU HWf.out, HBw.out⟩
        · have hlt : (k : Int) < (n : Int) := by omega
          have hkz : k < n := by omega
          have Hkz := Lib.hid hkz
          clear hke
          have his := (HDv.out.secs k hkz).is
          rw [sureU_P] at his
          cases hp : d1.P (k : Int) with
          | none =>
            rw [hp] at his
            have HDx := Lib.hid (HDv.out.skipU hp)
            simp only [Option.isSome_none] at his
            clear hp hkz
            go_wp2_with fail
            go_roundw
            case rel => exact ⟨k + 1, by omega, by go_num, HDx.out, HBw.out⟩
            case measure => simp [intOf]; omega
          | some s =>
            rw [hp] at his
            simp only [Option.isSome_some] at his
            obtain ⟨hsl, hrg⟩ : s.length = 144 ∧ wr.rangeAt LB (k * 289 + 144) (u8s s) := by
              obtain ⟨x, hx, hrx, he⟩ := (HDv.out.secs k hkz).p
              obtain rfl := he s (by rw [sureU_P]; exact hp)
              exact ⟨hx, hrx⟩
            have HRg := Lib.hid (And.intro hsl hrg)
            have HP := Lib.hid hp
            clear hp hkz hsl hrg
            go_wp2_with fail
            refine wp_region_still_tail 15 (by kernel_rfl) (by kernel_rfl) ?_
            simp only [List.take_succ_cons, List.take_zero, List.drop_succ_cons, List.drop_zero]
            iterate 12 still_step
            refine wpStill_load_67 rfl (.tmp 42) rfl LB (k * 289 + 144) rfl s HRg.out.1 (rangeAt_block HRg.out.2 rfl) ?_
            refine wpStill_build_70 rfl (.tmp 43) rfl s rfl HRg.out.1 ?_
            still_step
            refine wpStill_nil ?_
            change wpList _ _ _ _ _ wr.drew
            have HD4 := Lib.hid HDv.out.drew
            have HB4 := Lib.hid HBw.out.drew
            have hin : k * 289 + 289 ≤ n * 289 := by have : (k + 1) * 289 ≤ n * 289 := Nat.mul_le_mul_right _ Hkz.out; omega
            have Hnn := Lib.hid hin
            clear hin
            generalize wr.drew = w4 at *
            refine wpList_store_70 rfl (.tmp 45) (.tmp 44) rfl LB (k * 289) rfl s rfl HRg.out.1 (fun j hj => by
              have := HD4.out.there (k * 289 + j) (by have := Hnn.out; omega)
              rw [Nat.zero_add] at this
              exact this) ?_
            have HD5 := Lib.hid ((HD4.out.setS Hkz.out HRg.out.1).stepU HP.out)
            have HB5 : Hid (But [rB, LB] w (w4.setCells LB (k * 289) (sec3 s M.zero false))) := Lib.hid (HB4.out.sets _ _ _ (.inl (by simp)))
            generalize w4.setCells LB (k * 289) (sec3 s M.zero false) = w5 at *
            go_wp2
            go_roundw
            case rel => exact ⟨k + 1, by omega, by go_num, HD5.out, HB5.out⟩
            case measure => simp [intOf]; omega
end Go.Proofs.Ytbcblcnnffdjdaa
