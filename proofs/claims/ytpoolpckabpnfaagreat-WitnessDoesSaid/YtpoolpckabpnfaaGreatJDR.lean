/-
  What the document's own Crash makes of its device in memory.
  What is left, for the document's own device; and two lists of numbers are compared.
  An own copy of bytes; bytes that are turned, one after another.
-/
import Derived.Test.YtpoolpckabpnfaaGreatJD
import Derived.Test.YtpoolpckabpnfaaGreatSDev5
import Derived.Test.YtpoolpckabpnfaaGreatSPend
import Derived.BigQuiet
import Derived.Deep.RegionHeldLaw
namespace Go.Proofs.YtpoolpckabpnfaaGreat
open Go.RowKit Go.Maps
set_option linter.unusedVariables false
set_option linter.unusedSimpArgs false
set_option maxRecDepth 20000

variable {rB LB n : Nat} {d : M.Dv}

/-- the first k sectors are sure, as C says -/
def M.upU (C : Nat → M.Sec) (k : Nat) (d : M.Dv) : M.Dv := { d with S := fun j => if j < k then C j else d.S j, P := fun q => if q < (k : Int) then none else d.P q }

theorem RefAt.zeroC {w : World} (h : RefAt w rB LB n d) (C : Nat → M.Sec) : RefAt w rB LB n (M.upU C 0 d) :=
  h.same (fun i => by simp [M.upU]) (fun q => by
    unfold M.upU
    show d.P q = if q < ((0 : Nat) : Int) then none else d.P q
    split
    · cases hp : d.P q with
      | none => rfl
      | some s => have := (h.wf.pend q s hp).1; omega
    · rfl) rfl rfl
theorem RefAt.stepC {C : Nat → M.Sec} {w : World} {k : Nat} {s : M.Sec} (h : RefAt w rB LB n (M.setS (M.upU C k d) k s)) (hp : s = C k) : RefAt w rB LB n (M.upU C (k + 1) d) :=
  h.same (fun i => by
    show (if i = k then s else if i < k then C i else d.S i) = if i < k + 1 then C i else d.S i
    by_cases e : i = k
    · subst e; rw [if_pos rfl, if_pos (by omega)]; exact hp
    · rw [if_neg e]
      by_cases e2 : i < k
      · rw [if_pos e2, if_pos (by omega)]
      · rw [if_neg e2, if_neg (by omega)]) (fun q => by
    show (if q = (k : Int) then none else if q < (k : Int) then none else d.P q) = if q < ((k + 1 : Nat) : Int) then none else d.P q
    by_cases e : q = (k : Int)
    · rw [if_pos e, if_pos (by omega)]
    · rw [if_neg e]
      by_cases e2 : q < (k : Int)
      · rw [if_pos e2, if_pos (by omega)]
      · rw [if_neg e2, if_neg (by omega)]) rfl rfl
theorem RefAt.skipC {C : Nat → M.Sec} {w : World} {k : Nat} (h : RefAt w rB LB n (M.upU C k d)) (hp : d.P (k : Int) = none) (hC : C k = d.S k) : RefAt w rB LB n (M.upU C (k + 1) d) :=
  h.same (fun i => by
    show (if i < k then C i else d.S i) = if i < k + 1 then C i else d.S i
    by_cases e : i = k
    · subst e; rw [if_neg (by omega), if_pos (by omega)]; exact hC.symm
    · by_cases e2 : i < k
      · rw [if_pos e2, if_pos (by omega)]
      · rw [if_neg e2, if_neg (by omega)]) (fun q => by
    show (if q < (k : Int) then none else d.P q) = if q < ((k + 1 : Nat) : Int) then none else d.P q
    by_cases e : q = (k : Int)
    · rw [e, if_neg (by omega), if_pos (by omega), hp]
    · by_cases e2 : q < (k : Int)
      · rw [if_pos e2, if_pos (by omega)]
      · rw [if_neg e2, if_neg (by omega)]) rfl rfl
theorem upU_P (C : Nat → M.Sec) (k : Nat) (d : M.Dv) : (M.upU C k d).P (k : Int) = d.P (k : Int) := by
  show (if (k : Int) < (k : Int) then none else d.P (k : Int)) = _
  rw [if_neg (by omega)]
theorem upU_S (C : Nat → M.Sec) (k : Nat) (d : M.Dv) : (M.upU C k d).S k = d.S k := by
  show (if k < k then C k else d.S k) = _
  rw [if_neg (by omega)]
theorem RefAt.pAt {w : World} (h : RefAt w rB LB n d) {i : Nat} (hi : i < n) {s : M.Sec} (hp : d.P (i : Int) = some s) : w.rangeAt LB (i * 289 + 144) (u8s s) := by
  obtain ⟨x, hx, hrx, he⟩ := (h.secs i hi).p
  obtain rfl := he s hp
  exact hrx

theorem crashS_at (P : Int → Option M.Sec) : ∀ (r : List Int) (l : List (Int × Int)) (S : Nat → M.Sec) (j k : Nat), r.Pairwise (· < ·) → r[k]? = some (j : Int) →
    M.crashS P S r l j = match l[k]? with | some x => M.mix ((P j).getD (S j)) (S j) (M.keptN x.1 x.2) | none => S j
  | [], _, _, _, _, _, h => by simp at h
  | i :: r, [], S, j, k, _, h => by simp [M.crashS]
  | i :: r, x :: l, S, j, k, hr, h => by
    obtain ⟨h1, h2⟩ := List.pairwise_cons.1 hr
    simp only [M.crashS]
    cases k with
    | zero =>
      have e : i = (j : Int) := by simpa using h
      rw [M.crashS_out P r l _ j fun h' => by have := h1 _ h'; omega]
      simp [e]
    | succ k =>
      have h' : r[k]? = some (j : Int) := by simpa using h
      have hm : (j : Int) ∈ r := List.mem_of_getElem? h'
      have := h1 _ hm
      rw [crashS_at P r l _ j k h2 h', if_neg (by omega)]
      simp

theorem pendL_at (P : Int → Option M.Sec) (i : Nat) (hp : (P (i : Int)).isSome = true) : ∀ m : Nat, i < m → (M.pendL m P)[(M.pendL i P).length]? = some (i : Int)
  | 0, h => by omega
  | m + 1, h => by
    rw [pendL_succ]
    by_cases e : i = m
    · subst e
      rw [if_pos hp, List.getElem?_append_right (Nat.le_refl _), Nat.sub_self]
      rfl
    · have := pendL_at P i hp m (by omega)
      rw [List.getElem?_append_left (List.getElem?_eq_some_iff.1 this).1]
      exact this
theorem pendL_out (P : Int → Option M.Sec) (i m : Nat) (hp : P (i : Int) = none) : (i : Int) ∉ M.pendL m P := by
  unfold M.pendL
  rw [List.mem_filter]
  rintro ⟨_, h⟩
  rw [hp] at h
  simp at h
theorem u8s_get {s : M.Sec} {j : Nat} {c : UInt8} (h : s[j]? = some c) : (u8s s)[j]? = some (.int .u8 (c.toNat : Int)) := by simp [u8s, u8, h]
theorem fill_mix (s b : M.Sec) (k : Nat) : fillTo s b k = M.mix s b k := rfl
theorem mix_all {s b : M.Sec} (h1 : s.length = 144) (h2 : b.length = 144) : M.mix s b 144 = s := by
  unfold M.mix
  rw [List.take_of_length_le (by omega), List.drop_eq_nil_of_le (by omega), List.append_nil]

theorem rcrash_end {w : World} {C : Nat → M.Sec} (h : RefAt w rB LB n (M.upU C n d)) (hw : M.Wf n d) (hC : ∀ i, n ≤ i → C i = d.S i) :
    RefAt ((w.setCell ⟨rB, 1, none⟩ (.bool false)).setCell ⟨rB, 2, none⟩ (.int .i64 (-1))) rB LB n ⟨C, fun _ => none, false, -1⟩ :=
  ((h.setDead false).setFuse (k := -1) (q := -1) rfl (by omega) (by omega)).same (fun i => by
    show (if i < n then C i else d.S i) = C i
    split
    · rfl
    · exact (hC i (by omega)).symm) (fun q => by
    show (if q < (n : Int) then none else d.P q) = none
    split
    · rfl
    · cases hp : d.P q with
      | none => rfl
      | some s => have := (hw.pend q s hp).2.1; omega) rfl rfl

theorem krow_at {w : World} {aK : Option Addr} {mK cK : Nat} {ks : List (Int × Int)} (h : KRow w aK mK cK ks) {l : List Nat} (hn : ks = [] ∨ ∀ b off, aK = some ⟨b, off, none⟩ → b ∉ l) {q : Nat} {x : Int × Int} (hx : ks[q]? = some x) :
    ∃ b off, aK = some ⟨b, off, none⟩ ∧ ∀ w', But l w w' → w'.cell? ⟨b, off + q * 2, none⟩ = some (.int .i64 x.1) ∧ w'.cell? ⟨b, off + q * 2 + 1, none⟩ = some (.int .i64 x.2) := by
  have hne : ks ≠ [] := by rintro rfl; simp at hx
  obtain ⟨_, _, _, h4⟩ := h
  rcases h4 with h4 | ⟨b, off, ha, hlt, hc⟩
  · exact absurd h4 hne
  · rcases hn with hn | hn
    · exact absurd hn hne
    · exact ⟨b, off, ha, fun w' hb => by rw [hb.cell hlt (hn b off ha), hb.cell hlt (hn b off ha)]; exact hc q x hx⟩

set_option maxHeartbeats 4000000 in
theorem rcrash_any (w : World) (h : RefAt w rB LB n d) (aK : Option Addr) (mK cK : Nat) (ks : List (Int × Int)) (hk : KRow w aK mK cK ks) (hnb : ks = [] ∨ ∀ b off, aK = some ⟨b, off, none⟩ → b ∉ [rB, LB]) :
    Calls Tryz.prog 15 #[.pointer (some ⟨rB, 0, none⟩), .slice aK mK cK] w fun e w' => e = .returned (.tuple #[]) ∧ RefAt w' rB LB n (M.crashD n d ks) ∧ But [rB, LB] w w' := by
  have HD := Lib.hid h
  have h512 := h.n512
  have HK := Lib.hid hk
  have hmk : mK = ks.length := hk.1.symm
  have Hmk := Lib.hid hmk
  have HNb := Lib.hid hnb
  unfold M.crashD
  have HW := Lib.hid h.wf
  have HC : Hid (∀ C, C = M.crashS d.P d.S (M.pendL n d.P) ks → (∀ i : Nat, d.P (i : Int) = none → C i = d.S i) ∧ (∀ i : Nat, n ≤ i → C i = d.S i) ∧ (∀ (i : Nat) s, i < n → d.P (i : Int) = some s → C i = match ks[(M.pendL i d.P).length]? with | some x => M.mix s (d.S i) (M.keptN x.1 x.2) | none => d.S i)) := Lib.hid (by
    rintro C rfl
    refine ⟨fun i hi => M.crashS_out _ _ _ _ _ (pendL_out _ _ _ hi), fun i hi => M.crashS_out _ _ _ _ _ (pendL_out _ _ _ ?_), fun i s hi hs => ?_⟩
    · cases hp : d.P (i : Int) with
      | none => rfl
      | some s => have := (h.wf.pend _ s hp).2.1; omega
    · rw [crashS_at d.P _ ks d.S i _ (M.pendL_rising n d.P) (pendL_at d.P i (by rw [hs]; rfl) n hi), hs]
      rfl)
  generalize hCe : M.crashS d.P d.S (M.pendL n d.P) ks = C
  have HC2 := Lib.hid (HC.out C hCe.symm)
  clear HC hCe h hk hnb hmk
  have HDz := Lib.hid (HD.out.zeroC C)
  have HBz : Hid (But [rB, LB] w w) := Lib.hid (But.refl _ _)
  go_enter Tryz.func15, Tryz.ntmps15
  go_wp2_with fail
  go_loopw [4, 5] (fun t u wr => ∃ (i : Nat), i ≤ n ∧ t = .int .i64 ((M.pendL i d.P).length : Int) ∧ u = .int .i64 i ∧ RefAt wr rB LB n (M.upU C i d) ∧ But [rB, LB] w wr) (fun _ u _ => n - (intOf u).toNat)
  case atStart => exact ⟨0, by omega, rfl, rfl, HDz.out, HBz.out⟩
  case round =>
    obtain ⟨i, hi, rfl, rfl, hdv, hbw⟩ := hrel
    have HDv := Lib.hid hdv
    have HBw := Lib.hid hbw
    have hsec3 := hdv.sec
    have hde3 := hdv.dead
    have hfu3 := hdv.fuse
    have hfz1 := hdv.fz 1
    have hfz2 := hdv.fz 2
    clear hdv hbw HDz HBz
    have hi0 : (0 : Int) ≤ (i : Int) := by omega
    by_cases hie : i = n
    · subst hie
      go_wp2_with fail
      go_end0
      exact ⟨rfl, rcrash_end HDv.out HW.out HC2.out.2.1, (HBw.out.set _ (.inl (by simp))).set _ (.inl (by simp))⟩
    · have hlt : (i : Int) < (n : Int) := by omega
      have hin : i < n := by omega
      have Hin := Lib.hid hin
      clear hie hde3 hfu3 hfz1 hfz2
      have his := (HDv.out.secs i hin).is
      have hb0 := (HDv.out.secs i hin).b
      rw [upU_P] at his
      rw [upU_S] at hb0
      have HSu := Lib.hid (pendL_succ i d.P)
      have HPl := Lib.hid (M.pendL_len i d.P)
      cases hp : d.P (i : Int) with
      | none =>
        rw [hp] at his HSu
        have HDx := Lib.hid (HDv.out.skipC hp (HC2.out.1 i hp))
        simp only [Option.isSome_none, Bool.false_eq_true, if_false, List.append_nil] at his HSu
        clear hp hin hb0
        go_wp2_with fail
        go_roundw
        case rel => exact ⟨i + 1, by omega, by rw [HSu.out], by go_num, HDx.out, HBw.out⟩
        case measure => simp [intOf]; omega
      | some s =>
        rw [hp] at his
        simp only [Option.isSome_some] at his
        have HSu : Hid ((M.pendL (i + 1) d.P).length = (M.pendL i d.P).length + 1) := Lib.hid (by rw [pendL_succ, hp]; simp)
        have HC3 := Lib.hid (HC2.out.2.2 i s hin hp)
        have Hs : Hid (s.length = 144 ∧ d.P (i : Int) = some s ∧ (M.upU C i d).P (i : Int) = some s) := Lib.hid ⟨(HW.out.pend _ _ hp).2.2, hp, by rw [upU_P]; exact hp⟩
        have Hs0 : Hid ((d.S i).length = 144 ∧ wr.rangeAt LB (i * 289) (u8s (d.S i))) := Lib.hid ⟨HW.out.len i, hb0⟩
        generalize d.S i = s0 at HC3 Hs0
        clear hp hin hb0
        generalize hq : (M.pendL i d.P).length = q at *
        have Hq := Lib.hid hq
        have hq0 : (0 : Int) ≤ (q : Int) := by omega
        have hq1 : q ≤ n := by have := HPl.out; omega
        clear hq
        cases hkx : ks[q]? with
        | none =>
          have hge : ¬ ((q : Int) < (mK : Int)) := by
            have := List.getElem?_eq_none_iff.1 hkx
            have := Hmk.out
            omega
          rw [hkx] at HC3
          have HC4 : Hid (C i = s0) := Lib.hid HC3.out
          clear hkx HC3
          go_wp2_with (first
            | (refine wpList_load_67 rfl (.tmp 32) rfl LB (i * 289) rfl s0 Hs0.out.1 Hs0.out.2 ?_)
            | (refine wpList_alloc_67 rfl rfl ?_; intro w2 hw2
               obtain ⟨g1, g2, g3, g4⟩ := arr_new wr hw2
               have Hg := Lib.hid (And.intro g1 (And.intro g2 (And.intro g3 (g4 [wr.heap.size]))))
               clear hw2 g1 g2 g3 g4)
            | (refine wpList_store_67 rfl (.tmp 6) (.tmp 33) rfl wr.heap.size 0 rfl s0 rfl Hs0.out.1 Hg.out.2.1 ?_
               have hb3 := Hg.out.2.2.2.sets wr.heap.size 0 (u8s s0) (.inl (by simp))
               have hd3 := HDv.out.but hb3 (by have := HDv.out.ltR; simp; omega) (by have := HDv.out.lt; simp; omega)
               have HD3 := Lib.hid hd3
               have hbb : But [rB, LB] w (w2.setCells wr.heap.size 0 (u8s s0)) := HBw.out.trans' hb3 HBw.out.size
               have HB3 := Lib.hid hbb
               have HT3 := Lib.hid (World.there_setCells Hg.out.2.1 wr.heap.size 0 (u8s s0))
               have HG3 := Lib.hid (World.rangeAt_setCells_same w2 wr.heap.size 0 (u8s s0) (by rw [u8s_length, Hs0.out.1]; exact Hg.out.2.1))
               have HH : Hid (wr.heap.size ≠ rB ∧ wr.heap.size ≠ LB ∧ w.heap.size ≤ wr.heap.size) := Lib.hid ⟨by have := HDv.out.ltR; omega, by have := HDv.out.lt; omega, HBw.out.size⟩
               have hsec4 := hd3.sec
               skip
               clear hb3 hd3 hbb hsec3 his
               generalize w2.setCells wr.heap.size 0 (u8s s0) = w3 at *))
          refine wp_region_still_tail 8 (by kernel_rfl) (by kernel_rfl) ?_
          simp only [List.take_succ_cons, List.take_zero, List.drop_succ_cons, List.drop_zero]
          iterate 5 still_step
          refine wpStill_load_67 rfl (.tmp 6) rfl wr.heap.size 0 rfl s0 Hs0.out.1 (rangeAt_block HG3.out rfl) ?_
          refine wpStill_build_70 rfl (.tmp 96) rfl s0 rfl Hs0.out.1 ?_
          still_step
          refine wpStill_nil ?_
          change wpList _ _ _ _ _ w3.drew
          have HDt := Lib.hid (HD3.out.drew)
          have HBt := Lib.hid (HB3.out.drew)
          have hin : i * 289 + 289 ≤ n * 289 := by have : (i + 1) * 289 ≤ n * 289 := Nat.mul_le_mul_right _ Hin.out; omega
          have Hnn := Lib.hid hin
          clear hin
          generalize w3.drew = wt at *
          refine wpList_store_70 rfl (.tmp 98) (.tmp 97) rfl LB (i * 289) rfl s0 rfl Hs0.out.1 (fun j hj => by
            have := HDt.out.there (i * 289 + j) (by have := Hnn.out; omega)
            rw [Nat.zero_add] at this
            exact this) ?_
          have HDu := Lib.hid ((HDt.out.setS Hin.out Hs0.out.1).stepC HC4.out.symm)
          have HBu : Hid (But [rB, LB] w (wt.setCells LB (i * 289) (sec3 s0 M.zero false))) := Lib.hid (HBt.out.sets _ _ _ (.inl (by simp)))
          generalize wt.setCells LB (i * 289) (sec3 s0 M.zero false) = wu at *
          go_wp2
          go_roundw
          case rel => exact ⟨i + 1, by omega, by have := HSu.out; go_num, by go_num, HDu.out, HBu.out⟩
          case measure => simp [intOf]; omega
        | some x =>
          obtain ⟨bK, oK, rfl, hcell⟩ := krow_at HK.out HNb.out hkx
          have HKc := Lib.hid hcell
          obtain ⟨how, N⟩ := x
          have hltk : (q : Int) < (mK : Int) := by
            have := (List.getElem?_eq_some_iff.1 hkx).1
            have := Hmk.out
            omega
          rw [hkx] at HC3
          have HC4 : Hid (C i = M.mix s s0 (M.keptN how N)) := Lib.hid HC3.out
          clear hkx HC3 hcell
          simp only at HKc
          by_cases hh1 : how = 1
          · subst hh1
            have HC5 : Hid (s = C i) := Lib.hid (by rw [HC4.out]; unfold M.keptN; rw [if_pos rfl, mix_all Hs.out.1 Hs0.out.1])
            go_wp2_with (first
              | (refine wpList_load_67 rfl (.tmp 32) rfl LB (i * 289) rfl s0 Hs0.out.1 Hs0.out.2 ?_)
              | (refine wpList_alloc_67 rfl rfl ?_; intro w2 hw2
                 obtain ⟨g1, g2, g3, g4⟩ := arr_new wr hw2
                 have Hg := Lib.hid (And.intro g1 (And.intro g2 (And.intro g3 (g4 [wr.heap.size]))))
                 clear hw2 g1 g2 g3 g4)
              | (refine wpList_store_67 rfl (.tmp 6) (.tmp 33) rfl wr.heap.size 0 rfl s0 rfl Hs0.out.1 Hg.out.2.1 ?_
                 have hb3 := Hg.out.2.2.2.sets wr.heap.size 0 (u8s s0) (.inl (by simp))
                 have hd3 := HDv.out.but hb3 (by have := HDv.out.ltR; simp; omega) (by have := HDv.out.lt; simp; omega)
                 have HD3 := Lib.hid hd3
                 have hbb : But [rB, LB] w (w2.setCells wr.heap.size 0 (u8s s0)) := HBw.out.trans' hb3 HBw.out.size
                 have HB3 := Lib.hid hbb
                 have HT3 := Lib.hid (World.there_setCells Hg.out.2.1 wr.heap.size 0 (u8s s0))
                 have HG3 := Lib.hid (World.rangeAt_setCells_same w2 wr.heap.size 0 (u8s s0) (by rw [u8s_length, Hs0.out.1]; exact Hg.out.2.1))
                 have HH : Hid (wr.heap.size ≠ rB ∧ wr.heap.size ≠ LB ∧ w.heap.size ≤ wr.heap.size) := Lib.hid ⟨by have := HDv.out.ltR; omega, by have := HDv.out.lt; omega, HBw.out.size⟩
                 have hsec4 := hd3.sec
                 obtain ⟨hkh, hkn⟩ := HKc.out _ hbb
                 clear hb3 hd3 hbb hsec3 his
                 generalize w2.setCells wr.heap.size 0 (u8s s0) = w3 at *)
              | (refine wpList_load_67 rfl (.tmp 52) rfl LB (i * 289 + 144) rfl s Hs.out.1 ((HD3.out.pAt Hin.out Hs.out.2.2) ) ?_)
              | (refine wpList_store_67 rfl (.tmp 6) (.tmp 53) rfl wr.heap.size 0 rfl s rfl Hs.out.1 HT3.out ?_
                 have hb4 := (But.refl [wr.heap.size] w3).sets wr.heap.size 0 (u8s s) (.inl (by simp))
                 have hd4 := HD3.out.but hb4 (by have := HH.out.1; simp; omega) (by have := HH.out.2.1; simp; omega)
                 have HD4 := Lib.hid hd4
                 have hbb : But [rB, LB] w (w3.setCells wr.heap.size 0 (u8s s)) := HB3.out.trans' hb4 HH.out.2.2
                 have HB4 := Lib.hid hbb
                 have HG4 := Lib.hid (World.rangeAt_setCells_same w3 wr.heap.size 0 (u8s s) (by rw [u8s_length, Hs.out.1]; exact HT3.out))
                 have hsec5 := hd4.sec
                 obtain ⟨hkh5, hkn5⟩ := HKc.out _ hbb
                 clear hb4 hd4 hbb hsec4 hkh hkn HG3
                 generalize w3.setCells wr.heap.size 0 (u8s s) = w4 at *))
            refine wp_region_still_tail 8 (by kernel_rfl) (by kernel_rfl) ?_
            simp only [List.take_succ_cons, List.take_zero, List.drop_succ_cons, List.drop_zero]
            iterate 5 still_step
            refine wpStill_load_67 rfl (.tmp 6) rfl wr.heap.size 0 rfl s Hs.out.1 (rangeAt_block HG4.out rfl) ?_
            refine wpStill_build_70 rfl (.tmp 96) rfl s rfl Hs.out.1 ?_
            still_step
            refine wpStill_nil ?_
            change wpList _ _ _ _ _ w4.drew
            have HDt := Lib.hid (HD4.out.drew)
            have HBt := Lib.hid (HB4.out.drew)
            have hin : i * 289 + 289 ≤ n * 289 := by have : (i + 1) * 289 ≤ n * 289 := Nat.mul_le_mul_right _ Hin.out; omega
            have Hnn := Lib.hid hin
            clear hin
            generalize w4.drew = wt at *
            refine wpList_store_70 rfl (.tmp 98) (.tmp 97) rfl LB (i * 289) rfl s rfl Hs.out.1 (fun j hj => by
              have := HDt.out.there (i * 289 + j) (by have := Hnn.out; omega)
              rw [Nat.zero_add] at this
              exact this) ?_
            have HDu := Lib.hid ((HDt.out.setS Hin.out Hs.out.1).stepC HC5.out)
            have HBu : Hid (But [rB, LB] w (wt.setCells LB (i * 289) (sec3 s M.zero false))) := Lib.hid (HBt.out.sets _ _ _ (.inl (by simp)))
            generalize wt.setCells LB (i * 289) (sec3 s M.zero false) = wu at *
            go_wp2
            go_roundw
            case rel => exact ⟨i + 1, by omega, by have := HSu.out; go_num, by go_num, HDu.out, HBu.out⟩
            case measure => simp [intOf]; omega
          · by_cases hh2 : how = 2
            · subst hh2
              clear hh1
              have hN : Hid (M.keptN 2 N = (min (max N 0) 144).toNat) := Lib.hid (by unfold M.keptN; rfl)
              go_wp2_with (first
                | (refine wpList_load_67 rfl (.tmp 32) rfl LB (i * 289) rfl s0 Hs0.out.1 Hs0.out.2 ?_)
                | (refine wpList_alloc_67 rfl rfl ?_; intro w2 hw2
                   obtain ⟨g1, g2, g3, g4⟩ := arr_new wr hw2
                   have Hg := Lib.hid (And.intro g1 (And.intro g2 (And.intro g3 (g4 [wr.heap.size]))))
                   clear hw2 g1 g2 g3 g4)
                | (refine wpList_store_67 rfl (.tmp 6) (.tmp 33) rfl wr.heap.size 0 rfl s0 rfl Hs0.out.1 Hg.out.2.1 ?_
                   have hb3 := Hg.out.2.2.2.sets wr.heap.size 0 (u8s s0) (.inl (by simp))
                   have hd3 := HDv.out.but hb3 (by have := HDv.out.ltR; simp; omega) (by have := HDv.out.lt; simp; omega)
                   have HD3 := Lib.hid hd3
                   have hbb : But [rB, LB] w (w2.setCells wr.heap.size 0 (u8s s0)) := HBw.out.trans' hb3 HBw.out.size
                   have HB3 := Lib.hid hbb
                   have HT3 := Lib.hid (World.there_setCells Hg.out.2.1 wr.heap.size 0 (u8s s0))
                   have HG3 := Lib.hid (World.rangeAt_setCells_same w2 wr.heap.size 0 (u8s s0) (by rw [u8s_length, Hs0.out.1]; exact Hg.out.2.1))
                   have HH : Hid (wr.heap.size ≠ rB ∧ wr.heap.size ≠ LB ∧ w.heap.size ≤ wr.heap.size) := Lib.hid ⟨by have := HDv.out.ltR; omega, by have := HDv.out.lt; omega, HBw.out.size⟩
                   have hsec4 := hd3.sec
                   obtain ⟨hkh, hkn⟩ := HKc.out _ hbb
                   clear hb3 hd3 hbb hsec3 his
                   generalize w2.setCells wr.heap.size 0 (u8s s0) = w3 at *))
              generalize wr.heap.size = H at *
              have HG3' : Hid (w3.rangeAt H 0 (u8s (fillTo s s0 0))) := Lib.hid HG3.out
              go_loopw [7] (fun t wr => ∃ j : Nat, j ≤ 144 ∧ (j : Int) ≤ max N 0 ∧ t = .int .i64 j ∧ RefAt wr rB LB n (M.upU C i d) ∧ But [rB, LB] w wr ∧ wr.there H 0 144 ∧ wr.rangeAt H 0 (u8s (fillTo s s0 j))) (fun t _ => 144 - (intOf t).toNat)
              case atStart => exact ⟨0, by omega, by omega, rfl, HD3.out, HB3.out, HT3.out, HG3'.out⟩
              case round =>
                obtain ⟨j, hj, hjN, rfl, hdz, hbz, htz, hgz⟩ := hrel
                have HDz := Lib.hid hdz
                have HBz := Lib.hid hbz
                have HTz := Lib.hid htz
                have HGz := Lib.hid hgz
                have hsec6 := hdz.sec
                obtain ⟨hkh6, hkn6⟩ := HKc.out _ hbz
                clear hdz hbz htz hgz HD3 HB3 HT3 HG3 HG3' hsec4 hkh hkn
                have hj0 : (0 : Int) ≤ (j : Int) := by omega
                have HFl : Hid ((fillTo s s0 j).length = 144) := Lib.hid (by rw [fill_len (by have := Hs.out.1; omega) (by have := Hs0.out.1; omega)]; exact Hs0.out.1)
                by_cases hj144 : j = 144
                · subst hj144
                  have HC5 : Hid (fillTo s s0 144 = C i) := Lib.hid (by rw [HC4.out, hN.out, fill_mix]; congr 1; omega)
                  try rw [show ((144 : Nat) : Int) = 144 from rfl]
                  go_wp2_with fail
                  refine wp_region_still_tail 8 (by kernel_rfl) (by kernel_rfl) ?_
                  simp only [List.take_succ_cons, List.take_zero, List.drop_succ_cons, List.drop_zero]
                  iterate 5 still_step
                  refine wpStill_load_67 rfl (.tmp 6) rfl H 0 rfl (fillTo s s0 144) HFl.out (rangeAt_block HGz.out rfl) ?_
                  refine wpStill_build_70 rfl (.tmp 96) rfl (fillTo s s0 144) rfl HFl.out ?_
                  still_step
                  refine wpStill_nil ?_
                  change wpList _ _ _ _ _ wr.drew
                  have HDt := Lib.hid (HDz.out.drew)
                  have HBt := Lib.hid (HBz.out.drew)
                  have hin : i * 289 + 289 ≤ n * 289 := by have : (i + 1) * 289 ≤ n * 289 := Nat.mul_le_mul_right _ Hin.out; omega
                  have Hnn := Lib.hid hin
                  clear hin
                  generalize wr.drew = wt at *
                  refine wpList_store_70 rfl (.tmp 98) (.tmp 97) rfl LB (i * 289) rfl (fillTo s s0 144) rfl HFl.out (fun j hj => by
                    have := HDt.out.there (i * 289 + j) (by have := Hnn.out; omega)
                    rw [Nat.zero_add] at this
                    exact this) ?_
                  have HDu := Lib.hid ((HDt.out.setS Hin.out HFl.out).stepC HC5.out)
                  have HBu : Hid (But [rB, LB] w (wt.setCells LB (i * 289) (sec3 (fillTo s s0 144) M.zero false))) := Lib.hid (HBt.out.sets _ _ _ (.inl (by simp)))
                  generalize wt.setCells LB (i * 289) (sec3 (fillTo s s0 144) M.zero false) = wu at *
                  go_wp2
                  go_roundw
                  case rel => exact ⟨i + 1, by omega, by have := HSu.out; go_num, by go_num, HDu.out, HBu.out⟩
                  case measure => simp [intOf]; omega
                · have hjlt : (j : Int) < 144 := by omega
                  by_cases hjn : (j : Int) < N
                  · have hjz : j < 144 := by omega
                    clear hj144
                    obtain ⟨c0, hc0⟩ : ∃ c0, s[j]? = some c0 := ⟨s[j]'(by have := Hs.out.1; omega), List.getElem?_eq_getElem _⟩
                    have hby : wr.cell? ⟨LB, i * 289 + 144 + j, none⟩ = some (.int .u8 (c0.toNat : Int)) := HDz.out.pAt Hin.out Hs.out.2.2 j _ (u8s_get hc0)
                    obtain ⟨⟨u0, hu0⟩, hfz0⟩ : (∃ u0, wr.cell? ⟨H, j, none⟩ = some u0) ∧ wr.frozen? ⟨H, j, none⟩ = false := by
                      have := HTz.out j hjz
                      rw [Nat.zero_add] at this
                      exact ⟨Option.isSome_iff_exists.1 this.1, this.2⟩
                    have HB6 : Hid (But [rB, LB] w (wr.setCell ⟨H, j, none⟩ (.int .u8 (c0.toNat : Int)))) := Lib.hid (HBz.out.set _ (.inr HH.out.2.2))
                    have HD6 := Lib.hid (HDz.out.but ((But.refl [H] wr).set (p := ⟨H, j, none⟩) (.int .u8 (c0.toNat : Int)) (.inl (by simp))) (by have := HH.out.1; simp; omega) (by have := HH.out.2.1; simp; omega))
                    have HT6 := Lib.hid (there_set HTz.out ⟨H, j, none⟩ (.int .u8 (c0.toNat : Int)))
                    have HG6 := Lib.hid (range_set (c := c0) HGz.out (k := j) (by rw [HFl.out]; exact hjz))
                    rw [fill_set hc0 (by rw [Hs0.out.1]; exact hjz)] at HG6
                    clear hc0
                    go_wp2_with fail
                    go_roundw
                    case rel => exact ⟨j + 1, by omega, by omega, by go_num, HD6.out, HB6.out, HT6.out, HG6.out⟩
                    case measure => simp [intOf]; omega
                  · have HC5 : Hid (fillTo s s0 j = C i) := Lib.hid (by rw [HC4.out, hN.out, fill_mix]; congr 1; omega)
                    clear hj144
                    go_wp2_with fail
                    refine wp_region_still_tail 8 (by kernel_rfl) (by kernel_rfl) ?_
                    simp only [List.take_succ_cons, List.take_zero, List.drop_succ_cons, List.drop_zero]
                    iterate 5 still_step
                    refine wpStill_load_67 rfl (.tmp 6) rfl H 0 rfl (fillTo s s0 j) HFl.out (rangeAt_block HGz.out rfl) ?_
                    refine wpStill_build_70 rfl (.tmp 96) rfl (fillTo s s0 j) rfl HFl.out ?_
                    still_step
                    refine wpStill_nil ?_
                    change wpList _ _ _ _ _ wr.drew
                    have HDt := Lib.hid (HDz.out.drew)
                    have HBt := Lib.hid (HBz.out.drew)
                    have hin : i * 289 + 289 ≤ n * 289 := by have : (i + 1) * 289 ≤ n * 289 := Nat.mul_le_mul_right _ Hin.out; omega
                    have Hnn := Lib.hid hin
                    clear hin
                    generalize wr.drew = wt at *
                    refine wpList_store_70 rfl (.tmp 98) (.tmp 97) rfl LB (i * 289) rfl (fillTo s s0 j) rfl HFl.out (fun j hj => by
                      have := HDt.out.there (i * 289 + j) (by have := Hnn.out; omega)
                      rw [Nat.zero_add] at this
                      exact this) ?_
                    have HDu := Lib.hid ((HDt.out.setS Hin.out HFl.out).stepC HC5.out)
                    have HBu : Hid (But [rB, LB] w (wt.setCells LB (i * 289) (sec3 (fillTo s s0 j) M.zero false))) := Lib.hid (HBt.out.sets _ _ _ (.inl (by simp)))
                    generalize wt.setCells LB (i * 289) (sec3 (fillTo s s0 j) M.zero false) = wu at *
                    go_wp2
                    go_roundw
                    case rel => exact ⟨i + 1, by omega, by have := HSu.out; go_num, by go_num, HDu.out, HBu.out⟩
                    case measure => simp [intOf]; omega
            · have HC5 : Hid (s0 = C i) := Lib.hid (by rw [HC4.out]; unfold M.keptN; rw [if_neg hh1, if_neg hh2, M.mix_zero])
              go_wp2_with (first
                | (refine wpList_load_67 rfl (.tmp 32) rfl LB (i * 289) rfl s0 Hs0.out.1 Hs0.out.2 ?_)
                | (refine wpList_alloc_67 rfl rfl ?_; intro w2 hw2
                   obtain ⟨g1, g2, g3, g4⟩ := arr_new wr hw2
                   have Hg := Lib.hid (And.intro g1 (And.intro g2 (And.intro g3 (g4 [wr.heap.size]))))
                   clear hw2 g1 g2 g3 g4)
                | (refine wpList_store_67 rfl (.tmp 6) (.tmp 33) rfl wr.heap.size 0 rfl s0 rfl Hs0.out.1 Hg.out.2.1 ?_
                   have hb3 := Hg.out.2.2.2.sets wr.heap.size 0 (u8s s0) (.inl (by simp))
                   have hd3 := HDv.out.but hb3 (by have := HDv.out.ltR; simp; omega) (by have := HDv.out.lt; simp; omega)
                   have HD3 := Lib.hid hd3
                   have hbb : But [rB, LB] w (w2.setCells wr.heap.size 0 (u8s s0)) := HBw.out.trans' hb3 HBw.out.size
                   have HB3 := Lib.hid hbb
                   have HT3 := Lib.hid (World.there_setCells Hg.out.2.1 wr.heap.size 0 (u8s s0))
                   have HG3 := Lib.hid (World.rangeAt_setCells_same w2 wr.heap.size 0 (u8s s0) (by rw [u8s_length, Hs0.out.1]; exact Hg.out.2.1))
                   have HH : Hid (wr.heap.size ≠ rB ∧ wr.heap.size ≠ LB ∧ w.heap.size ≤ wr.heap.size) := Lib.hid ⟨by have := HDv.out.ltR; omega, by have := HDv.out.lt; omega, HBw.out.size⟩
                   have hsec4 := hd3.sec
                   obtain ⟨hkh, hkn⟩ := HKc.out _ hbb
                   clear hb3 hd3 hbb hsec3 his
                   generalize w2.setCells wr.heap.size 0 (u8s s0) = w3 at *))
              refine wp_region_still_tail 8 (by kernel_rfl) (by kernel_rfl) ?_
              simp only [List.take_succ_cons, List.take_zero, List.drop_succ_cons, List.drop_zero]
              iterate 5 still_step
              refine wpStill_load_67 rfl (.tmp 6) rfl wr.heap.size 0 rfl s0 Hs0.out.1 (rangeAt_block HG3.out rfl) ?_
              refine wpStill_build_70 rfl (.tmp 96) rfl s0 rfl Hs0.out.1 ?_
              still_step
              refine wpStill_nil ?_
              change wpList _ _ _ _ _ w3.drew
              have HDt := Lib.hid (HD3.out.drew)
              have HBt := Lib.hid (HB3.out.drew)
              have hin : i * 289 + 289 ≤ n * 289 := by have : (i + 1) * 289 ≤ n * 289 := Nat.mul_le_mul_right _ Hin.out; omega
              have Hnn := Lib.hid hin
              clear hin
              generalize w3.drew = wt at *
              refine wpList_store_70 rfl (.tmp 98) (.tmp 97) rfl LB (i * 289) rfl s0 rfl Hs0.out.1 (fun j hj => by
                have := HDt.out.there (i * 289 + j) (by have := Hnn.out; omega)
                rw [Nat.zero_add] at this
                exact this) ?_
              have HDu := Lib.hid ((HDt.out.setS Hin.out Hs0.out.1).stepC HC5.out)
              have HBu : Hid (But [rB, LB] w (wt.setCells LB (i * 289) (sec3 s0 M.zero false))) := Lib.hid (HBt.out.sets _ _ _ (.inl (by simp)))
              generalize wt.setCells LB (i * 289) (sec3 s0 M.zero false) = wu at *
              go_wp2
              go_roundw
              case rel => exact ⟨i + 1, by omega, by have := HSu.out; go_num, by go_num, HDu.out, HBu.out⟩
              case measure => simp [intOf]; omega
end Go.Proofs.YtpoolpckabpnfaaGreat
namespace Go.Proofs.YtpoolpckabpnfaaGreat
open Go.RowKit Go.Maps
set_option linter.unusedVariables false
set_option linter.unusedSimpArgs false
set_option maxRecDepth 20000

theorem row_int {w : World} {a : Option Addr} {m c : Nat} {l : List Int} (h : Row w a m c (ints l)) {k : Nat} {x : Int} (hx : l[k]? = some x) : ∃ b off, a = some ⟨b, off, none⟩ ∧ b < w.heap.size ∧ ∀ w', Below w.heap.size w w' → w'.cell? ⟨b, off + k, none⟩ = some (.int .i64 x) := by
  have hk := (List.getElem?_eq_some_iff.1 hx).1
  obtain ⟨h1, h2, h3, h4⟩ := h
  have hl : (ints l).length = l.length := by simp [ints]
  rcases h4 with h4 | ⟨b, off, ha, hb, hc⟩
  · rw [h4] at hl; simp at hl; omega
  · refine ⟨b, off, ha, hb, fun w' hw => ?_⟩
    rw [hw.cell (by exact hb), hc k (by omega)]
    simp [ints, hx, encZ]

def flat (l : List (Int × Int)) : List Value := l.flatMap fun x => [.int .i64 x.1, .int .i64 x.2]
theorem flat_len (l : List (Int × Int)) : (flat l).length = l.length * 2 := by
  induction l with
  | nil => rfl
  | cons x l ih => unfold flat at ih ⊢; simp only [List.flatMap_cons, List.length_append, ih, List.length_cons, List.length_nil]; omega
theorem flat_get : ∀ (l : List (Int × Int)) (i : Nat) (x : Int × Int), l[i]? = some x → (flat l)[i * 2]? = some (.int .i64 x.1) ∧ (flat l)[i * 2 + 1]? = some (.int .i64 x.2)
  | [], i, x, h => by simp at h
  | y :: l, 0, x, h => by
    have : y = x := by simpa using h
    subst this
    exact ⟨rfl, rfl⟩
  | y :: l, i + 1, x, h => by
    obtain ⟨h1, h2⟩ := flat_get l i x (by simpa using h)
    have e : flat (y :: l) = .int .i64 y.1 :: .int .i64 y.2 :: flat l := rfl
    rw [e, show (i + 1) * 2 = i * 2 + 1 + 1 by omega]
    simp only [List.getElem?_cons_succ]
    exact ⟨h1, h2⟩
theorem flat_app (l m : List (Int × Int)) : flat (l ++ m) = flat l ++ flat m := by simp [flat]

def KOwn (w : World) (B : Nat) (a : Option Addr) (n cap : Nat) (l : List (Int × Int)) : Prop :=
  w.ownsRow B 101 2 (.slice a n cap) n (flat l) ∧ l.length = n ∧ n ≤ 17592186044416
theorem KOwn.row {w : World} {B : Nat} {a : Option Addr} {n cap : Nat} {l : List (Int × Int)} (h : KOwn w B a n cap l) : KRow w a n cap l ∧ ∀ b off, a = some ⟨b, off, none⟩ → B ≤ b ∧ off = 0 := by
  obtain ⟨h1, h2, h3⟩ := h
  rcases h1.2 with ⟨hv, h'⟩ | ⟨g, c, cur, hv, hB, hh, hn, hm, hs, ht⟩
  · injection hv with e1 e2 e3
    subst e1 e3
    refine ⟨⟨h2, by omega, by simp [maxLen], .inl (List.eq_nil_of_length_eq_zero (by omega))⟩, by simp⟩
  · injection hv with e1 e2 e3
    subst e1 e3
    refine ⟨⟨h2, hn, hm, .inr ⟨g, 0, rfl, (h1.lt g rfl).2, fun i x hi => ?_⟩⟩, fun b off hb => ?_⟩
    · have hi2 := (List.getElem?_eq_some_iff.1 hi).1
      obtain ⟨f1, f2⟩ := flat_get l i x hi
      rw [Nat.zero_add]
      exact ⟨(World.ownsRow.cellAt h1 _ (by omega)).trans f1, (World.ownsRow.cellAt h1 _ (by omega)).trans f2⟩
    · injection hb with hb
      injection hb with hb1 hb2
      omega
theorem KOwn.but {w w' : World} {B : Nat} {a : Option Addr} {n cap : Nat} {l : List (Int × Int)} (h : KOwn w B a n cap l) {m : List Nat} (hb : But m w w') (hl : ∀ x ∈ m, x < B) : KOwn w' B a n cap l := by
  obtain ⟨h1, h2⟩ := h
  have hlt := h1.lt
  refine ⟨⟨h1.1, ?_⟩, h2⟩
  rcases h1.2 with h' | ⟨g, c, cur, hv, hg, hh, r⟩
  · exact .inl h'
  · have := hlt g (by rw [hv]; rfl)
    exact .inr ⟨g, c, cur, hv, hg, by rw [hb.block g this.2 (fun hm => by have := hl g hm; omega)]; exact hh, r⟩
theorem pair_info : (Tryz.prog.info? 101).map (fun i => (i.zero, i.size, i.bytes)) = some (some (.agg #[.int .i64 0, .int .i64 0]), 2, 16) := by kernel_rfl

theorem run_append_pair (w : World) (ty : TypeId) (B : Nat) (a : Option Addr) (n cap : Nat) (l : List (Int × Int)) (hown : KOwn w B a n cap l) (g c : Nat) (x : Int × Int) (hr : w.cell? ⟨g, 0, none⟩ = some (.int .i64 x.1) ∧ w.cell? ⟨g, 1, none⟩ = some (.int .i64 x.2))
    (hsum : n + 1 ≤ 1048576) (hB : B ≤ w.heap.size) :
    ∃ a' cap' w', (Builtin.append_ #[46, 46] ty #[.slice a n cap, .slice (some ⟨g, 0, none⟩) 1 c]).run Tryz.prog w = .ok (.slice a' (n + 1) cap') w' ∧ KOwn w' B a' (n + 1) cap' (l ++ [x]) ∧ Below B w w' := by
  obtain ⟨g1, g2, g3⟩ := hown
  obtain ⟨i0, hi0, hz0, hs0, hb0⟩ := info_parts pair_info
  obtain ⟨v', w', hrun, h5, h6, _, h7⟩ := run_append_own_at (P := Tryz.prog) w B 46 ty 101 i0 (.agg #[.int .i64 0, .int .i64 0]) 2 16 Tryz.underlying46 hi0 hz0 hs0 hb0 rfl (by omega) _ n (flat l) g1 ⟨g, 0, none⟩ 1 c [.int .i64 x.1, .int .i64 x.2]
    rfl (fun j u hu => by
      rw [Addr.add_mid]
      match j, hu with
      | 0, hu => injection hu with hu; subst hu; exact hr.1
      | 1, hu => injection hu with hu; subst hu; exact hr.2
      | j + 2, hu => simp at hu) (by simp [Value.oneCell']) (by simp only [maxLen]; omega) (by omega) hB
  obtain ⟨a', cap', rfl⟩ : ∃ a' cap', v' = .slice a' (n + 1) cap' := by
    rcases h5.2 with ⟨rfl, h0⟩ | ⟨g, c', cur, rfl, _⟩
    · exact ⟨none, 0, by rw [h0]⟩
    · exact ⟨_, _, rfl⟩
  exact ⟨a', cap', w', hrun, ⟨by rw [flat_app]; exact h5, by rw [List.length_append, g2]; rfl, by omega⟩, (Below.refl _ _).grown h6 hB fun k hk => (g1.lt k hk).1⟩

theorem wpList_append_pair {ops : Array Oper} {rest : List Oper} {o : Oper} {a : Act} {w : World} {Q : Exit → Act → World → Prop} (hg : o.guard = none) (x y : Operand) (ho : o.op = Op.call { callee := Callee.builtin Builtin.append, args := #[x, y], argTypes := #[46, 46] })
    (B : Nat) (A : Option Addr) (n cap : Nat) (l : List (Int × Int)) (hx : a.eval x = .slice A n cap) (hown : KOwn w B A n cap l) (g c : Nat) (u : Int × Int) (hy : a.eval y = .slice (some ⟨g, 0, none⟩) 1 c) (hr : w.cell? ⟨g, 0, none⟩ = some (.int .i64 u.1) ∧ w.cell? ⟨g, 1, none⟩ = some (.int .i64 u.2))
    (hsum : n + 1 ≤ 1048576) (hB : B ≤ w.heap.size)
    (h : ∀ A' cap' w', KOwn w' B A' (n + 1) cap' (l ++ [u]) → Below B w w' → wpList Tryz.prog ops Q rest (a.put o.dst (.slice A' (n + 1) cap')) w') : wpList Tryz.prog ops Q (o :: rest) a w := by
  refine wpList_plain hg fun K hK => ?_
  obtain ⟨A', cap', w', hrun, r1, r3⟩ := run_append_pair w o.type B A n cap l hown g c u hr hsum hB
  unfold Oper.wp
  simp [execOp, ho, resolve, invoke, builtin, hx, hy, hrun, Result.andThen]
  exact hK _ _ (h A' cap' w' r1 r3)

theorem step_append_pair {ops : Array Oper} {o : Oper} {a : Act} {w : World} {K : Act → World → Prop} {Q : Exit → Act → World → Prop} {E : Prop}
    (hg : o.guard = none) (x y : Operand) (ho : o.op = Op.call { callee := Callee.builtin Builtin.append, args := #[x, y], argTypes := #[46, 46] })
    (B : Nat) (A : Option Addr) (n cap : Nat) (l : List (Int × Int)) (hx : a.eval x = .slice A n cap) (hown : KOwn w B A n cap l) (g c : Nat) (u : Int × Int) (hy : a.eval y = .slice (some ⟨g, 0, none⟩) 1 c) (hr : w.cell? ⟨g, 0, none⟩ = some (.int .i64 u.1) ∧ w.cell? ⟨g, 1, none⟩ = some (.int .i64 u.2))
    (hsum : n + 1 ≤ 1048576) (hB : B ≤ w.heap.size)
    (h : ∀ A' cap' w', KOwn w' B A' (n + 1) cap' (l ++ [u]) → Below B w w' → K (a.put o.dst (.slice A' (n + 1) cap')) w') : if Region.wanted o (yielded ops a.tmps) = true then Oper.wp Tryz.prog o a w K Q else E := by
  have hw : Region.wanted o (yielded ops a.tmps) = true := by simp [Region.wanted, hg]
  rw [if_pos hw]
  obtain ⟨A', cap', w', hrun, r1, r3⟩ := run_append_pair w o.type B A n cap l hown g c u hr hsum hB
  unfold Oper.wp
  simp [execOp, ho, resolve, invoke, builtin, hx, hy, hrun, Result.andThen]
  exact h A' cap' w' r1 r3
theorem pair_cells (w : World) (x : Int × Int) : (w.alloc (.cells #[.int .i64 x.1, .int .i64 x.2] 101)).cell? ⟨w.heap.size, 0, none⟩ = some (.int .i64 x.1) ∧ (w.alloc (.cells #[.int .i64 x.1, .int .i64 x.2] 101)).cell? ⟨w.heap.size, 1, none⟩ = some (.int .i64 x.2) := by
  rw [World.cell?_alloc_mark, World.cell?_alloc_mark]
  exact ⟨rfl, rfl⟩

theorem kown_lit (w : World) (B : Nat) (hB : B ≤ w.heap.size) : KOwn (w.alloc (.cells #[] 101)) B (some ⟨w.heap.size, 0, none⟩) 0 0 [] :=
  ⟨World.ownsRow_lit w #[] 0 hB (by simp only [maxLen]; omega) (by simp), rfl, by omega⟩

theorem krow_below {w : World} {aK : Option Addr} {mK cK : Nat} {ks : List (Int × Int)} (h : KRow w aK mK cK ks) {q : Nat} {x : Int × Int} (hx : ks[q]? = some x) :
    ∃ b off, aK = some ⟨b, off, none⟩ ∧ ∀ w', Below w.heap.size w w' → w'.cell? ⟨b, off + q * 2, none⟩ = some (.int .i64 x.1) ∧ w'.cell? ⟨b, off + q * 2 + 1, none⟩ = some (.int .i64 x.2) := by
  have hne : ks ≠ [] := by rintro rfl; simp at hx
  obtain ⟨_, _, _, h4⟩ := h
  rcases h4 with h4 | ⟨b, off, ha, hlt, hc⟩
  · exact absurd h4 hne
  · exact ⟨b, off, ha, fun w' hb => by rw [hb.cell (by exact hlt), hb.cell (by exact hlt)]; exact hc q x hx⟩

set_option maxHeartbeats 1000000 in
theorem keeps_any (w : World) (aK : Option Addr) (mK cK : Nat) (ks : List (Int × Int)) (hk : KRow w aK mK cK ks) (hm : mK ≤ 600) :
    Calls Tryz.prog 16 #[.slice aK mK cK] w fun e w' => ∃ a cap, e = .returned (.slice a mK cap) ∧ KRow w' a mK cap ks ∧ (∀ b off, a = some ⟨b, off, none⟩ → w.heap.size ≤ b) ∧ Below w.heap.size w w' := by
  have HK := Lib.hid hk
  have hmk : mK = ks.length := hk.1.symm
  have Hmk := Lib.hid hmk
  clear hk hmk
  go_enter Tryz.func16, Tryz.ntmps16
  go_wp2_with fail
  have HO := Lib.hid (kown_lit w w.heap.size (Nat.le_refl _))
  have HB1 := Lib.hid ((Below.refl w.heap.size w).alloc (Nat.le_refl _) (.cells #[] 101))
  go_loopw [3, 4] (fun t u wr => ∃ (k : Nat) (A : Option Addr) (cap : Nat), k ≤ mK ∧ u = .int .i64 k ∧ t = .slice A k cap ∧ Below w.heap.size w wr ∧ KOwn wr w.heap.size A k cap (ks.take k)) (fun _ u _ => mK - (intOf u).toNat)
  case atStart => exact ⟨0, _, _, by omega, rfl, rfl, HB1.out, HO.out⟩
  case round =>
    obtain ⟨k, A, cap, hk, rfl, rfl, hbw, how⟩ := hrel
    have HBw := Lib.hid hbw
    have HOw := Lib.hid how
    clear hbw how HB1 HO
    have hk0 : (0 : Int) ≤ (k : Int) := by omega
    by_cases hke : k = mK
    · subst hke
      have hge : ¬ ((k : Int) < (k : Int)) := by omega
      go_wp2_with fail
      go_ret
      have := HOw.out.row
      rw [List.take_of_length_le (by have := Hmk.out; omega)] at this
      exact ⟨_, _, rfl, this.1, fun b off hb => (this.2 b off hb).1, HBw.out⟩
    · have hlt : (k : Int) < (mK : Int) := by omega
      have hlt6 : (k : Int) < 600 := by omega
      obtain ⟨x, hx⟩ : ∃ x, ks[k]? = some x := ⟨_, List.getElem?_eq_getElem (by have := Hmk.out; omega)⟩
      obtain ⟨b1, o1, rfl, hcell⟩ := krow_below HK.out hx
      have HS : Hid (ks.take (k + 1) = ks.take k ++ [x]) := Lib.hid (by rw [List.take_add_one, hx]; rfl)
      obtain ⟨x1, x2⟩ := x
      have HKc := Lib.hid hcell
      obtain ⟨hc1, hc2⟩ := hcell wr HBw.out
      clear hx hke hcell
      go_wp2_with fail
      have HKS : Hid (∀ w', Below w.heap.size w w' → (w'.cell? ⟨b1, o1 + k * 2, none⟩ = some (.int .i64 x1) ∧ w'.cell? ⟨b1, o1 + k * 2 + 1, none⟩ = some (.int .i64 x2))) := Lib.hid (fun w' hw => HKc.out w' hw)
      have HDr : Hid (Below w.heap.size w wr.drew) := Lib.hid HBw.out.drew
      have HAl : Hid (∀ o, Below w.heap.size w (wr.drew.alloc o)) := Lib.hid (fun o => HDr.out.alloc HDr.out.size o)
      have HOd : Hid (∀ o, KOwn (wr.drew.alloc o) w.heap.size A k cap (ks.take k)) := Lib.hid (fun o => HOw.out.but (But.alloc (But.drew (But.refl [] wr)) o) (by simp))
      go_region_held_law (fun w' => w'.cell? ⟨b1, o1 + k * 2, none⟩ = some (.int .i64 x1) ∧ w'.cell? ⟨b1, o1 + k * 2 + 1, none⟩ = some (.int .i64 x2))
        (first
          | exact HKS.out _ HBw.out
          | exact HKS.out _ HDr.out
          | exact HKS.out _ (HAl.out _)
          | exact HKS.out _ ((HAl.out _).trans hb8))
        ((refine step_append_pair (by rfl) (.tmp 16) (.tmp 28) (by rfl) w.heap.size A k cap (ks.take k) (by rfl) (HOd.out _) wr.heap.size 1 (x1, x2) (by rfl) (pair_cells wr.drew (x1, x2)) (by omega) (HAl.out _).size ?_
          intro A8 cap8 w8 hown8 hb8))
      have HO8 := Lib.hid hown8
      have HB8 := Lib.hid ((HAl.out _).trans hb8)
      clear hown8 hb8
      go_wp2
      go_roundw
      case rel => exact ⟨k + 1, _, _, by omega, by go_num, rfl, HB8.out, by rw [HS.out]; exact HO8.out⟩
      case measure => simp [intOf]; omega
end Go.Proofs.YtpoolpckabpnfaaGreat
namespace Go.Proofs.YtpoolpckabpnfaaGreat
open Go.RowKit Go.Maps
set_option linter.unusedVariables false
set_option linter.unusedSimpArgs false
set_option maxRecDepth 20000

/-- bytes onto an own row -/
theorem run_append_row (w : World) (ty : TypeId) (B : Nat) (a : Option Addr) (n cap : Nat) (l : List Value) (hown : Own 5 w B a n cap l) (A : Option Addr) (m c : Nat) (x : List UInt8) (hr : Row w A m c (u8s x))
    (hsum : n + m ≤ 1048576) (hB : B ≤ w.heap.size) :
    ∃ a' cap' w', (Builtin.append_ #[50, 50] ty #[.slice a n cap, .slice A m c]).run Tryz.prog w = .ok (.slice a' (n + m) cap') w' ∧ Own 5 w' B a' (n + m) cap' (l ++ u8s x) ∧ Below B w w' := by
  obtain ⟨i0, hi0, hz0, hz1, hz2⟩ := info_parts u8_info
  by_cases hm : 0 < m ∧ ∃ A', A = some A'
  · obtain ⟨h0, A', rfl⟩ := hm
    obtain ⟨a', cap', w', h1, h2, h3, h4⟩ := run_append_own' 50 5 i0 (.int .u8 0) 1 Tryz.underlying50 hi0 hz0 hz1 hz2 rfl (by omega) w ty B a n cap l hown A' m c (u8s x) hr h0 (u8s_one x) hsum hB
    exact ⟨a', cap', w', h1, h2, h4⟩
  · obtain ⟨h1, h2, h3⟩ := hown
    obtain ⟨r1, r2, r3, r4⟩ := hr
    have hx : u8s x = [] ∧ m = 0 := by
      rcases r4 with r4 | ⟨b, off, hb, _⟩
      · exact ⟨r4, by rw [← r1, r4]; rfl⟩
      · have h0 : m = 0 := by
          rcases Nat.eq_zero_or_pos m with h | h
          · exact h
          · exact absurd ⟨h, _, hb⟩ hm
        exact ⟨List.eq_nil_of_length_eq_zero (by omega), h0⟩
    obtain ⟨hx, rfl⟩ := hx
    rw [hx] at *
    cases A with
    | none =>
      refine ⟨a, cap, w, ?_, ⟨by simpa using h1, by simpa using h2, by omega⟩, Below.refl _ _⟩
      rcases h1.2 with ⟨hv, _⟩ | ⟨g, c', cur, hv, _, _, hnc, _⟩
      · injection hv with e1 e2 e3
        subst e1 e2 e3
        simp [Builtin.append_, run_underlying Tryz.underlying50, sizeOf, typeInfo, hi0, Builtin.lenOf, Builtin.firstCells]
      · injection hv with e1 e2 e3
        subst e1 e3
        simp [Builtin.append_, run_underlying Tryz.underlying50, sizeOf, typeInfo, hi0, Builtin.lenOf, Builtin.firstCells, hnc, storeCells]
    | some ad =>
      obtain ⟨v', w', hrun, h5, h6, _, h7⟩ := run_append_own_at (P := Tryz.prog) w B 50 ty 5 i0 (.int .u8 0) 1 1 Tryz.underlying50 hi0 hz0 hz1 hz2 rfl (by omega) _ n l h1 ad 0 c []
        rfl (fun j u hu => by simp at hu) (by simp) (by simp only [maxLen]; omega) (by omega) hB
      obtain ⟨a', cap', rfl⟩ : ∃ a' cap', v' = .slice a' (n + 0) cap' := by
        rcases h5.2 with ⟨rfl, h0⟩ | ⟨g, c', cur, rfl, _⟩
        · exact ⟨none, 0, by rw [h0]⟩
        · exact ⟨_, _, rfl⟩
      exact ⟨a', cap', w', hrun, ⟨h5, by simpa using h2, by omega⟩, (Below.refl _ _).grown h6 hB fun k hk => (h1.lt k hk).1⟩

theorem wpList_append_row {ops : Array Oper} {rest : List Oper} {o : Oper} {act : Act} {w : World} {Q : Exit → Act → World → Prop} (hgd : o.guard = none) (s x : Operand)
    (ho : o.op = .call { callee := .builtin .append, args := #[s, x], argTypes := #[50, 50] })
    (B : Nat) (a : Option Addr) (cap : Nat) (hs : act.eval s = .slice a 0 cap) (hown : Own 5 w B a 0 cap [])
    (A : Option Addr) (m c : Nat) (y : List UInt8) (hx : act.eval x = .slice A m c) (hr : Row w A m c (u8s y)) (hsum : m ≤ 1048576) (hB : B ≤ w.heap.size)
    (h : ∀ a' cap' w', Own 5 w' B a' m cap' (u8s y) → Below B w w' → wpList Tryz.prog ops Q rest (act.put o.dst (.slice a' m cap')) w') : wpList Tryz.prog ops Q (o :: rest) act w := by
  refine wpList_plain hgd fun K hK => ?_
  obtain ⟨a', cap', w', hrun, h2, h3⟩ := run_append_row w o.type B a 0 cap [] hown A m c y hr (by omega) hB
  rw [Nat.zero_add] at hrun h2
  unfold Oper.wp execOp
  simp only [ho, resolve, invoke, builtin, Sem.run_bind, Sem.run_pure, Result.andThen_ok, List.map_toArray, List.map_cons, List.map_nil, hs, hx, hrun]
  exact hK _ _ (h a' cap' w' h2 h3)

/-- bytes that may be written, in a block from B on -/
def Wr (w : World) (B : Nat) (a : Option Addr) (m : Nat) : Prop := m = 0 ∨ ∃ (b : Nat) (l : List UInt8), a = some ⟨b, 0, none⟩ ∧ l.length = m ∧ w.rangeAt b 0 (u8s l) ∧ w.there b 0 m ∧ B ≤ b ∧ b < w.heap.size

theorem Wr.of_own {w : World} {B : Nat} {a : Option Addr} {m cap : Nat} {l : List UInt8} (h : Own 5 w B a m cap (u8s l)) : Wr w B a m := by
  obtain ⟨h1, h2, h3⟩ := h
  rw [u8s_length] at h2
  rcases h1.2 with ⟨hv, h0⟩ | ⟨g, c', cur, hv, hg, hh, hn, hm, hs, ht⟩
  · exact .inl h0
  · injection hv with e1 e2 e3
    subst e1
    refine .inr ⟨g, l, rfl, h2, fun j v hj => ?_, fun j hj => ?_, hg, (h1.lt g rfl).2⟩
    · have hj' := (List.getElem?_eq_some_iff.1 hj).1
      rw [u8s_length] at hj'
      rw [Nat.zero_add]
      exact (World.ownsRow.cellAt h1 j (by omega)).trans hj
    · rw [Nat.zero_add]
      exact ⟨by rw [World.ownsRow.cellAt h1 j (by omega), List.getElem?_eq_getElem (by rw [u8s_length]; omega)]; rfl, World.ownsRow.frozenAt h1 j⟩
theorem Wr.but {w w' : World} {B : Nat} {a : Option Addr} {m : Nat} (h : Wr w B a m) {l : List Nat} (hb : But l w w') (hl : ∀ x ∈ l, x < B) : Wr w' B a m := by
  rcases h with h | ⟨b, l, h1, h2, h3, h4, h5, h6⟩
  · exact .inl h
  · have := hb.block b h6 (fun hm => by have := hl b hm; omega)
    exact .inr ⟨b, l, h1, h2, rangeAt_block h3 this, there_block h4 this, h5, Nat.lt_of_lt_of_le h6 hb.size⟩
theorem Wr.at {w : World} {B : Nat} {a : Option Addr} {m : Nat} (h : Wr w B a m) {k : Nat} (hk : k < m) : ∃ (b : Nat) (c : UInt8), a = some ⟨b, 0, none⟩ ∧ w.cell? ⟨b, k, none⟩ = some (.int .u8 (c.toNat : Int)) ∧ w.frozen? ⟨b, k, none⟩ = false ∧ B ≤ b ∧ b < w.heap.size ∧
    ∀ c' : UInt8, Wr (w.setCell ⟨b, k, none⟩ (.int .u8 (c'.toNat : Int))) B a m := by
  rcases h with h | ⟨b, l, h1, h2, h3, h4, h5, h6⟩
  · omega
  · have h7 := h3 k _ (u8s_get (List.getElem?_eq_getElem (show k < l.length by omega)))
    have h8 := h4 k hk
    rw [Nat.zero_add] at h7 h8
    exact ⟨b, _, h1, h7, h8.2, h5, h6, fun c' => .inr ⟨b, l.set k c', h1, by rw [List.length_set]; exact h2, range_set h3 (by omega), there_set h4 _ _, h5, by simpa [World.setCell] using h6⟩⟩
theorem turn_byte (c : UInt8) : bits .xor .u8 (c.toNat : Int) 1 = ((c ^^^ 1).toNat : Int) := by
  have h1 : c.toNat < 256 := c.toNat_lt
  have := u8_xor_nat c.toNat 1 h1 (by omega)
  simpa using this
theorem byte_range (c : UInt8) : (0 : Int) ≤ (c.toNat : Int) ∧ (c.toNat : Int) < 256 := by
  have h1 : c.toNat < 256 := c.toNat_lt
  omega
end Go.Proofs.YtpoolpckabpnfaaGreat
