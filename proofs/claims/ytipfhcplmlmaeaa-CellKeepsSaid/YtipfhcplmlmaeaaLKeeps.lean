/-
  PROVED: Behind a crash a cell has what was put last with OK, or what was under way, unless a torn sector has a right sum. CONDITIONS: none (any texts, any fuse, whatever the crash leaves).
-/
import Derived.Test.YtipfhcplmlmaeaaOpens
import Derived.Test.YtipfhcplmlmaeaaRef5
import Derived.Deep.CutBlock
import Derived.Deep.DeepCutAuto
namespace Go.Proofs.Ytipfhcplmlmaeaa.cellKeeps
open Go.ChangeShapes Go.WideShapes Go.ChangeAt Go.RowKit Go.Joins
open Go.ChangeMaps (open_string shut_string)
set_option linter.unusedVariables false
set_option linter.unusedSimpArgs false
set_option maxRecDepth 20000

/-- what is so behind any crash: the text put last, or what was under way, or a sector that is right by chance -/
def Fin (d : M.Dv) (c : M.Cl) (t : ByteArray) (u : Bool) (p0 p1 : List UInt8) : Prop := ∀ ks,
  ((M.found (M.rdS (M.seen (M.crashD 2 d ks) 0)) (M.rdS (M.seen (M.crashD 2 d ks) 1))).gen = c.gen ∧ (M.found (M.rdS (M.seen (M.crashD 2 d ks) 0)) (M.rdS (M.seen (M.crashD 2 d ks) 1))).text = c.text) ∨
  (u = true ∧ (((M.found (M.rdS (M.seen (M.crashD 2 d ks) 0)) (M.rdS (M.seen (M.crashD 2 d ks) 1))).gen = c.gen + 1 ∧ (M.found (M.rdS (M.seen (M.crashD 2 d ks) 0)) (M.rdS (M.seen (M.crashD 2 d ks) 1))).text = t) ∨
    (tst (M.seen (M.crashD 2 d ks) 0) p0 (M.slot (c.gen + 1) t) || tst (M.seen (M.crashD 2 d ks) 1) p1 (M.slot (c.gen + 1) t)) = true))

theorem fin_quiet {d : M.Dv} {c : M.Cl} (hp : ∀ k, d.P k = none) (hc : c = M.found (M.rdS (M.seen d 0)) (M.rdS (M.seen d 1))) (t : ByteArray) (u : Bool) (p0 p1 : List UInt8) : Fin d c t u p0 p1 := fun ks => by
  refine .inl ?_
  rw [seen_crash_none hp ks 0, seen_crash_none hp ks 1, hc]
  exact ⟨rfl, rfl⟩

theorem act_dead {d : M.Dv} (h : d.fuse ≠ 0) : (M.actD d).dead = d.dead := by
  unfold M.actD
  rw [if_neg h]
  split <;> rfl
theorem actE_ne {d : M.Dv} (h : M.actE d = 0) : d.fuse ≠ 0 := by
  intro e
  unfold M.actE at h
  rw [if_pos e] at h
  cases h

/-- a put that told OK -/
theorem put_good {d : M.Dv} {i : Nat} (hd : d.dead = false) (hi : i < 2) {l : List UInt8} (hl : l.length ≤ 144) (he : M.putE 2 d i l = 0) :
    (M.putD 2 d i l).dead = false ∧ (∀ k, (M.putD 2 d i l).P k = none) ∧ ((∀ k, d.P k = none) → ∀ j : Nat, M.seen (M.putD 2 d i l) j = if j = i then M.pad l else M.seen d j) := by
  unfold M.putE at he
  unfold M.putD
  have hr : M.reach 2 d (i : Int) = 0 := reach_ok hd hi
  by_cases e : M.writeE 2 d i l = 0
  · rw [if_pos e] at he ⊢
    have ef : d.fuse ≠ 0 := by
      unfold M.writeE at e
      rw [if_pos hr, if_neg (by omega)] at e
      exact actE_ne e
    have ew : M.writeD 2 d i l = { M.actD d with P := M.upd d.P i (M.pad l) } := by
      unfold M.writeD
      rw [if_pos hr, if_neg (by omega), if_neg ef]
    have ed : (M.writeD 2 d i l).dead = false := by rw [ew]; exact (act_dead ef).trans hd
    have ef2 : (M.writeD 2 d i l).fuse ≠ 0 := by
      unfold M.barrierE at he
      rw [ed, if_neg (by simp)] at he
      exact actE_ne he
    have eb : M.barrierD (M.writeD 2 d i l) = { M.actD (M.writeD 2 d i l) with S := M.sure (M.writeD 2 d i l), P := fun _ => none } := by
      unfold M.barrierD
      rw [ed, if_neg (by simp), if_neg ef2]
    rw [eb]
    refine ⟨(act_dead ef2).trans ed, fun _ => rfl, fun hp j => ?_⟩
    show M.sure (M.writeD 2 d i l) j = _
    rw [ew]
    unfold M.sure M.seen M.upd
    simp only
    by_cases hj : j = i
    · subst hj; simp
    · rw [if_neg (by omega), if_neg hj, M.act_S]
  · rw [if_neg e] at he
    exact absurd he e

/-- the two sectors, one of them turned -/
theorem seen_turn {d d' : M.Dv} {o : Nat} (ho : o ≤ 1) {z : List UInt8} (hs : ∀ j : Nat, j < 2 → M.seen d' j = if j = M.pos o 0 1 then z else M.seen d j) :
    M.seen d' 0 = (M.turn o z (M.seen d 0) (M.seen d 1)).1 ∧ M.seen d' 1 = (M.turn o z (M.seen d 0) (M.seen d 1)).2 := by
  rw [hs 0 (by omega), hs 1 (by omega)]
  by_cases h0 : o = 0
  · subst h0; simp [M.pos, M.turn]
  · obtain rfl : o = 1 := by omega
    simp [M.pos, M.turn]

theorem found_good {d d' : M.Dv} {c : M.Cl} (hc : c = M.found (M.rdS (M.seen d 0)) (M.rdS (M.seen d 1))) (hg : c.gen < 4611686018427387904) {t : ByteArray} (ht : t.size ≤ 100)
    (hs : ∀ j : Nat, M.seen d' j = if j = M.pos c.o 0 1 then M.pad (M.slot (c.gen + 1) t) else M.seen d j) :
    M.found (M.rdS (M.seen d' 0)) (M.rdS (M.seen d' 1)) = ⟨1 - c.o, c.gen + 1, t⟩ := by
  have ho := M.found_o (M.seen d 0) (M.seen d 1)
  have hg2 := M.found_gen (M.seen d 0) (M.seen d 1)
  rw [← hc] at ho hg2
  have hm : M.MayS (c.gen + 1) t := ⟨by omega, by omega, ht⟩
  obtain ⟨e0, e1⟩ := seen_turn ho (fun j _ => hs j)
  rw [e0, e1, hc]
  rw [← hc]
  have key := M.found_put (l := M.seen d 0) (m := M.seen d 1) (z := M.pad (M.slot (c.gen + 1) t)) (t := t) (by rw [← hc]; exact M.rdS_pad hm)
  rw [← hc] at key
  exact key

/-- a put that told an error: what is so behind a crash -/
theorem fin_bad {d : M.Dv} {c : M.Cl} (hwf : M.Wf 2 d) (hd : d.dead = false) (hp : ∀ k, d.P k = none) (hc : c = M.found (M.rdS (M.seen d 0)) (M.rdS (M.seen d 1))) (hg : c.gen < 4611686018427387904) {t : ByteArray} (ht : t.size ≤ 100)
    (he : M.putE 2 d (M.pos c.o 0 1) (M.slot (c.gen + 1) t) ≠ 0) : Fin (M.putD 2 d (M.pos c.o 0 1) (M.slot (c.gen + 1) t)) c t true (M.seen d 0) (M.seen d 1) := by
  have ho := M.found_o (M.seen d 0) (M.seen d 1)
  have hg2 := M.found_gen (M.seen d 0) (M.seen d 1)
  rw [← hc] at ho hg2
  have hm : M.MayS (c.gen + 1) t := ⟨by omega, by omega, ht⟩
  have hl := (M.slot_small hm).2
  have hi : M.pos c.o 0 1 < 2 := by unfold M.pos; split <;> omega
  generalize hil : M.pos c.o 0 1 = i at *
  generalize hll : M.slot (c.gen + 1) t = l at *
  have hr : M.reach 2 d (i : Int) = 0 := reach_ok hd hi
  unfold M.putE at he
  unfold M.putD
  by_cases e : M.writeE 2 d i l = 0
  · rw [if_pos e] at he ⊢
    have ef : d.fuse ≠ 0 := by
      unfold M.writeE at e
      rw [if_pos hr, if_neg (by omega)] at e
      exact actE_ne e
    have ew : M.writeD 2 d i l = { M.actD d with P := M.upd d.P i (M.pad l) } := by
      unfold M.writeD
      rw [if_pos hr, if_neg (by omega), if_neg ef]
    have ed : (M.writeD 2 d i l).dead = false := by rw [ew]; exact (act_dead ef).trans hd
    have ef2 : (M.writeD 2 d i l).fuse = 0 := by
      rcases Classical.em ((M.writeD 2 d i l).fuse = 0) with h | h
      · exact h
      · exfalso
        apply he
        unfold M.barrierE M.actE
        rw [ed, if_neg (by simp), if_neg h]
    have eb : M.barrierD (M.writeD 2 d i l) = M.actD (M.writeD 2 d i l) := by
      unfold M.barrierD
      rw [ed, if_neg (by simp), if_pos ef2]
    have eP : (M.barrierD (M.writeD 2 d i l)).P = M.upd d.P i (M.pad l) := by rw [eb, M.act_P, ew]
    have eS : (M.barrierD (M.writeD 2 d i l)).S = d.S := by rw [eb, M.act_S, ew]; exact M.act_S d
    intro ks
    have hseen : ∀ j : Nat, M.seen (M.crashD 2 (M.barrierD (M.writeD 2 d i l)) ks) j = M.crashS (M.upd d.P i (M.pad l)) d.S (M.pendL 2 (M.upd d.P i (M.pad l))) ks j := fun j => by
      show M.crashS _ _ _ _ _ = _
      rw [eP, eS]
    have hS : ∀ j : Nat, M.seen d j = d.S j := fun j => by unfold M.seen; rw [hp]; rfl
    obtain ⟨q, hq, hmix⟩ := M.crashS_in (M.upd d.P i (M.pad l)) (M.pendL 2 (M.upd d.P i (M.pad l))) ks d.S i (M.pendL_rising 2 _)
    have hups : M.upd d.P i (M.pad l) (i : Int) = some (M.pad l) := by simp [M.upd]
    rw [hups, Option.getD_some] at hmix
    obtain ⟨z, hz⟩ : ∃ z, z = M.mix (M.pad l) (d.S i) q := ⟨_, rfl⟩
    rw [← hz] at hmix
    have hs : ∀ j : Nat, j < 2 → M.seen (M.crashD 2 (M.barrierD (M.writeD 2 d i l)) ks) j = if j = M.pos c.o 0 1 then z else M.seen d j := fun j hj => by
      rw [hseen, hil]
      by_cases hji : j = i
      · subst hji; rw [if_pos rfl]; exact hmix
      · rw [if_neg hji, hS]
        refine M.crashS_out _ _ _ _ _ fun hmem => ?_
        have := (M.mem_pendL (fun k s hk => by
          simp only [M.upd] at hk
          split at hk
          · rename_i ek; subst ek; exact ⟨by omega, by omega⟩
          · rw [hp] at hk; cases hk) _).1 hmem
        simp only [M.upd] at this
        rw [if_neg (by omega), hp] at this
        cases this
    obtain ⟨e0, e1⟩ := seen_turn ho hs
    cases hrz : M.rdS z with
    | none =>
      refine .inl ?_
      rw [e0, e1]
      have key := M.found_spoil (l := M.seen d 0) (m := M.seen d 1) (z := z) hrz
      rw [← hc] at key
      exact key
    | some x =>
      obtain ⟨g', t'⟩ := x
      by_cases hzs : z = M.seen d i
      · refine .inl ?_
        rw [e0, e1]
        have : M.turn c.o z (M.seen d 0) (M.seen d 1) = (M.seen d 0, M.seen d 1) := by
          by_cases h0 : c.o = 0
          · rw [h0] at hil ⊢
            have : i = 0 := by simp [M.pos] at hil; omega
            subst this
            rw [hzs]; rfl
          · have h1 : c.o = 1 := by omega
            rw [h1] at hil ⊢
            have : i = 1 := by simp [M.pos] at hil; omega
            subst this
            rw [hzs]; rfl
        rw [this, ← hc]
        exact ⟨rfl, rfl⟩
      · refine .inr ⟨rfl, ?_⟩
        by_cases hzl : z.take l.length = l
        · refine .inl ?_
          have hz2 : M.rdS z = some (c.gen + 1, t) := by
            have : z = l ++ z.drop l.length := by conv => lhs; rw [← List.take_append_drop l.length z, hzl]
            rw [this, ← hll]
            exact M.rdS_slot hm _
          rw [e0, e1]
          have key := M.found_put (l := M.seen d 0) (m := M.seen d 1) (z := z) (t := t) (by rw [← hc]; exact hz2)
          rw [← hc] at key
          rw [key]
          exact ⟨rfl, rfl⟩
        · refine .inr ?_
          have hgp := (M.slot_rdS hrz).1.1
          have htz : tst z (M.seen d i) l = true := decide_eq_true ⟨by unfold M.rdP; rw [hrz]; show 0 < g'; omega, hzs, hzl⟩
          by_cases h0 : c.o = 0
          · have : i = 0 := by rw [h0] at hil; simp [M.pos] at hil; omega
            subst this
            rw [e0, h0, M.turn0, hll, htz]; rfl
          · have h1 : c.o = 1 := by omega
            have : i = 1 := by rw [h1] at hil; simp [M.pos] at hil; omega
            subst this
            rw [e1, h1, M.turn1, hll, htz, Bool.or_true]
  · rw [if_neg e]
    refine fin_quiet (fun k => ?_) ?_ _ _ _ _
    · unfold M.writeD
      rw [if_pos hr, if_neg (by omega)]
      unfold M.writeE at e
      rw [if_pos hr, if_neg (by omega)] at e
      have ef : d.fuse = 0 := by
        rcases Classical.em (d.fuse = 0) with h | h
        · exact h
        · exact absurd (by unfold M.actE; rw [if_neg h]) e
      rw [if_pos ef, M.act_P]; exact hp k
    · have : ∀ j : Nat, M.seen (M.writeD 2 d i l) j = M.seen d j := fun j => by
        unfold M.writeD
        rw [if_pos hr, if_neg (by omega)]
        unfold M.writeE at e
        rw [if_pos hr, if_neg (by omega)] at e
        have ef : d.fuse = 0 := by
          rcases Classical.em (d.fuse = 0) with h | h
          · exact h
          · exact absurd (by unfold M.actE; rw [if_neg h]) e
        rw [if_pos ef]
        unfold M.seen
        rw [M.act_P, M.act_S]
      rw [this, this]; exact hc

set_option maxHeartbeats 4000000 in
theorem walk (a0 : Option Addr) (n0 c0 : Nat) (l0 : List ByteArray) (x1 : Int) (a2 : Option Addr) (n2 c2 : Nat) (l2 : List (Int × Int)) (w : World) (w0 : Row w a0 n0 c0 (C.strs l0)) (w1 : (Lit.int .i64 x1).wf = true) (w2 : KRow w a2 n2 c2 l2) :
    Calls Try.prog 4 #[.slice a0 n0 c0, .int .i64 x1, .slice a2 n2 c2] w fun e w' => e = .returned (.bool true) ∧ Below w.heap.size w w' := by
  have HA := Lib.hid (awake_any w)
  have HW0 := Lib.hid w0
  have HX1 := Lib.hid (wf_int w1)
  have HW2 := Lib.hid w2
  clear w0 w1 w2
  by_cases hbig : 600 < n2
  · have hbigI : (600 : Int) < (n2 : Int) := by omega
    clear hbig
    go_enter Try.func4, Try.ntmps4
    go_wp2_with (first
      | (go_at_call 8; refine HA.out.mono ?_; rintro e w1 ⟨rfl, hb1⟩; have HB1 := Lib.hid hb1; clear hb1)
      | (go_at_call 11; refine (new_yes 2 (by omega) _).mono ?_; rintro e w2 ⟨dB, sB, mB, rfl, hd2, hb2, l1, l2, l3⟩
         have HB2 := Lib.hid (HB1.out.trans (hb2.mono HB1.out.size))
         clear hd2 hb2 l1 l2 l3))
    go_ret
    exact ⟨rfl, HB2.out⟩
  · have hbigI : ¬ ((600 : Int) < (n2 : Int)) := by omega
    clear hbig
    go_enter Try.func4, Try.ntmps4
    go_upto_block 0 with (first
      | (go_at_call 8; refine HA.out.mono ?_; rintro e w1 ⟨rfl, hb1⟩; have HB1 := Lib.hid hb1; clear hb1)
      | (go_at_call 11; refine (new_yes 2 (by omega) _).mono ?_; rintro e w2 ⟨dB, sB, mB, rfl, hd2, hb2, l1, l2', l3⟩
         have HD2 := Lib.hid hd2
         have HB2 := Lib.hid (HB1.out.trans (hb2.mono HB1.out.size))
         have HL : Hid (w.heap.size ≤ dB ∧ w.heap.size ≤ sB ∧ w.heap.size ≤ mB) := Lib.hid ⟨by have := HB1.out.size; omega, by have := HB1.out.size; omega, by have := HB1.out.size; omega⟩
         clear hd2 hb2 l1 l2' l3)
      | (go_at_call 13; refine (open_yes _ HD2.out rfl 0 1 (by omega) (by omega) (by omega)).mono ?_; rintro e w3 ⟨kB, rfl, lk, hk, hb3⟩
         have HK : Hid (CellAt w3 kB dB 0 1 ⟨0, 0, ⟨#[]⟩⟩) := Lib.hid (by have := found_zero; rw [fresh_seen, fresh_seen, this] at hk; exact hk)
         have HD3 := Lib.hid (HD2.out.but (But.of_below hb3) (by simp) (by simp) (by simp))
         have HB3 := Lib.hid (HB2.out.trans (hb3.mono HB2.out.size))
         have HLk : Hid (w.heap.size ≤ kB ∧ kB ≠ dB ∧ kB ≠ sB ∧ kB ≠ mB) := Lib.hid ⟨by have := HB2.out.size; omega, by have := HD2.out.ltD; omega, by have := HD2.out.lt; omega, by have := HD2.out.pend.lt; omega⟩
         clear lk hk hb3)
      | (go_at_call 16; refine (fuse_any w3 HD3.out x1 HX1.out.1 HX1.out.2).mono ?_; rintro e w4 ⟨rfl, hd4, hb4⟩
         have HD4 := Lib.hid hd4
         have HB4 := Lib.hid (hb4.mono (m := [dB, sB, mB, kB]) (by simp))
         have HK4 := Lib.hid (HK.out.but hb4 (by have := HLk.out; simp; omega))
         have HS4 := Lib.hid (slots_any w4 hd4 rfl 0 1 (by omega) (by omega))
         clear hd4 hb4)
      | (go_at_call 17; refine HS4.out.mono ?_; rintro e w5 ⟨G0, rfl, lG, hr5, hb5⟩
         have HR5 := Lib.hid hr5
         have HD5 := Lib.hid (HD4.out.but (But.of_below hb5) (by simp) (by simp) (by simp))
         have HK5 := Lib.hid (HK4.out.below hb5 HK4.out.lt)
         have HB5 : Hid (But [dB, sB, mB, kB] w3 w5) := Lib.hid (HB4.out.trans ((But.of_below hb5).mono (by simp)))
         have HG5 : Hid (G0 ≠ dB ∧ G0 ≠ sB ∧ G0 ≠ mB ∧ G0 ≠ kB) := Lib.hid ⟨by have := HD4.out.ltD; omega, by have := HD4.out.lt; omega, by have := HD4.out.pend.lt; omega, by have := HK4.out.lt; omega⟩
         clear lG hr5 hb5))
    go_cut [10, 11, 12, 13, 14] (fun last gen next under was wr => ∃ (d : M.Dv) (c : M.Cl) (t : ByteArray) (G : Nat) (p0 p1 : List UInt8) (u : Bool), last = .string c.text ∧ gen = .int .i64 c.gen ∧ next = .string t ∧ under = .bool u ∧ was = .slice (some ⟨G, 0, none⟩) 2 2 ∧ DevAt wr dB sB mB 2 d ∧ (0 ≤ c.gen ∧ c.gen ≤ 60) ∧ t.size ≤ 100 ∧ Fin d c t u p0 p1 ∧ Row wr (some ⟨G, 0, none⟩) 2 2 (strs2 (str p0) (str p1)) ∧ (G ≠ dB ∧ G ≠ sB ∧ G ≠ mB ∧ G ≠ kB) ∧ But [dB, sB, mB, kB] w3 wr)
    case first =>
      go_wp2_with fail
      go_loopw [10, 11, 12, 13, 14, 15] (fun last gen next under was i wr => ∃ (k : Nat) (d : M.Dv) (c cc : M.Cl) (t : ByteArray) (G : Nat) (p0 p1 : List UInt8) (u : Bool), k ≤ 60 ∧ k ≤ n0 ∧ i = .int .i64 k ∧ last = .string c.text ∧ gen = .int .i64 c.gen ∧ next = .string t ∧ under = .bool u ∧ was = .slice (some ⟨G, 0, none⟩) 2 2 ∧ DevAt wr dB sB mB 2 d ∧ CellAt wr kB dB 0 1 cc ∧ (0 ≤ c.gen ∧ c.gen ≤ (k : Int)) ∧ t.size ≤ 100 ∧ Fin d c t u p0 p1 ∧ Row wr (some ⟨G, 0, none⟩) 2 2 (strs2 (str p0) (str p1)) ∧ (G ≠ dB ∧ G ≠ sB ∧ G ≠ mB ∧ G ≠ kB) ∧ (u = false → d.dead = false ∧ (∀ k, d.P k = none) ∧ cc = c ∧ c = M.found (M.rdS (M.seen d 0)) (M.rdS (M.seen d 1))) ∧ But [dB, sB, mB, kB] w3 wr) (fun _ _ _ _ _ i _ => 60 - (intOf i).toNat)
      case atStart =>
        have hz : (⟨0, 0, ⟨#[]⟩⟩ : M.Cl) = M.found (M.rdS (M.seen (M.fuseD M.fresh x1) 0)) (M.rdS (M.seen (M.fuseD M.fresh x1) 1)) := found_zero.symm
        exact ⟨0, M.fuseD M.fresh x1, ⟨0, 0, ⟨#[]⟩⟩, ⟨0, 0, ⟨#[]⟩⟩, ⟨#[]⟩, G0, M.seen (M.fuseD M.fresh x1) 0, M.seen (M.fuseD M.fresh x1) 1, false, by omega, by omega, rfl, rfl, rfl, rfl, rfl, rfl, HD5.out, HK5.out, ⟨by decide, by decide⟩, by decide, fin_quiet (fun _ => rfl) hz _ _ _ _, HR5.out, HG5.out, fun _ => ⟨rfl, fun _ => rfl, rfl, hz⟩, HB5.out⟩
      case round =>
        obtain ⟨k, d, c, cc, t, G, p0, p1, u, hk60, hkn, rfl, rfl, rfl, rfl, rfl, rfl, hd, hcc, hg, ht, hfin, hrow, hGn, hu, hb⟩ := hrel
        have HDv := Lib.hid hd
        have HCc := Lib.hid hcc
        have Hg := Lib.hid hg
        have Ht := Lib.hid ht
        have HFn := Lib.hid hfin
        have HRo := Lib.hid hrow
        have HGn := Lib.hid hGn
        have Hu := Lib.hid hu
        have HBu := Lib.hid hb
        have HBw : Hid (Below w.heap.size w wr) := Lib.hid (HB3.out.trans (hb.to_below (by have := HL.out; have := HLk.out; simp; omega) HB3.out.size))
        clear hd hcc hg ht hfin hrow hGn hu hb HK5 HD5 HR5 HB5 HG5
        have hk0 : (0 : Int) ≤ (k : Int) := by omega
        by_cases hlt : (k : Int) < (n0 : Int)
        · by_cases hlt6 : (k : Int) < 60
          · cases u with
            | true =>
              go_wp2_with fail
              go_meet
              exact ⟨d, c, t, G, p0, p1, true, rfl, rfl, rfl, rfl, rfl, HDv.out, ⟨Hg.out.1, by have := Hg.out.2; omega⟩, Ht.out, HFn.out, HRo.out, HGn.out, HBu.out⟩
            | false =>
              obtain ⟨b, off, x, rfl, hx, hcell, hbl⟩ := strs_at HW0.out HBw.out (show k < n0 by omega)
              have Hbl := Lib.hid hbl
              obtain ⟨u1, u2, u3, u4⟩ := Hu.out rfl
              subst u3
              have HU := Lib.hid (And.intro u1 (And.intro u2 u4))
              clear hx hbl u1 u2 u4 Hu
              obtain ⟨co, cg, ct⟩ := cc
              try simp only at Hg
              have hg0 := Hg.out.1
              have hg1 := Hg.out.2
              by_cases hbig : 100 < x.size
              · have hbigI : (100 : Int) < (x.size : Int) := by omega
                have HPl := Lib.hid (put_long wr ⟨kB, 0, none⟩ x (by omega))
                clear hbig
                go_wp2_with (go_at_call 18; refine HPl.out.mono ?_; rintro e w' ⟨rfl, rfl⟩)
                go_roundw
                case rel => exact ⟨k + 1, d, _, _, t, G, p0, p1, false, by omega, by omega, by go_num, rfl, rfl, rfl, rfl, rfl, HDv.out, HCc.out, ⟨hg0, by simp only; omega⟩, Ht.out, HFn.out, HRo.out, HGn.out, fun _ => ⟨HU.out.1, HU.out.2.1, rfl, HU.out.2.2⟩, HBu.out⟩
                case measure => simp [intOf]; omega
              · have hbigI : ¬ ((100 : Int) < (x.size : Int)) := by omega
                have Hsz : Hid (x.size ≤ 100) := Lib.hid (by omega)
                clear hbig
                have HS1 := Lib.hid (slots_any wr HDv.out HU.out.1 0 1 (by omega) (by omega))
                go_wp2_with (go_at_call 17; refine HS1.out.mono ?_; rintro e w6 ⟨G1, rfl, lG1, hr6, hb6⟩
                             have HR6 := Lib.hid hr6
                             have HD6 := Lib.hid (HDv.out.but (But.of_below hb6) (by simp) (by simp) (by simp))
                             have HC6 := Lib.hid (HCc.out.below hb6 HCc.out.lt)
                             have HB6 : Hid (But [dB, sB, mB, kB] w3 w6) := Lib.hid (HBu.out.trans ((But.of_below hb6).mono (by simp)))
                             have HG6 : Hid (G1 ≠ dB ∧ G1 ≠ sB ∧ G1 ≠ mB ∧ G1 ≠ kB) := Lib.hid ⟨by have := HDv.out.ltD; omega, by have := HDv.out.lt; omega, by have := HDv.out.pend.lt; omega, by have := HCc.out.lt; omega⟩
                             have hcell6 : w6.cell? ⟨b, off + k, none⟩ = some (.string x) := by
                               rw [hb6.cell (p := ⟨b, off + k, none⟩) (Nat.lt_of_lt_of_le Hbl.out HBw.out.size)]; exact hcell
                             have HPt := Lib.hid (put_any w6 HD6.out kB 0 1 ⟨co, cg, ct⟩ HC6.out HLk.out.2 (by have := M.found_o (M.seen d 0) (M.seen d 1); rw [← HU.out.2.2] at this; exact this) ⟨hg0, by simp only; omega⟩ ⟨by omega, by omega⟩ x Hsz.out)
                             clear lG1 hr6 hb6 hcell)
                try simp only at HPt
                have HGood : Hid (M.putE 2 d (M.pos co 0 1) (M.slot (cg + 1) x) = 0 → _) := Lib.hid (put_good (l := M.slot (cg + 1) x) (i := M.pos co 0 1) HU.out.1 (by unfold M.pos; split <;> omega) (by have := M.slot_small (show M.MayS (cg + 1) x from ⟨by omega, by omega, Hsz.out⟩); omega))
                have HFg := Lib.hid (found_good (d' := M.putD 2 d (M.pos co 0 1) (M.slot (cg + 1) x)) HU.out.2.2 (by simp only; omega) Hsz.out)
                have HBad := Lib.hid (fin_bad HDv.out.wf HU.out.1 HU.out.2.1 HU.out.2.2 (by simp only; omega) Hsz.out)
                try simp only at HFg
                try simp only at HBad
                generalize M.putD 2 d (M.pos co 0 1) (M.slot (cg + 1) x) = d7 at *
                generalize M.putE 2 d (M.pos co 0 1) (M.slot (cg + 1) x) = e7 at *
                refine HPt.out.mono ?_
                rintro e w7 ⟨rfl, hd7, hc7, hb7⟩
                have HD7 := Lib.hid hd7
                have HC7 := Lib.hid hc7
                have HB7 := Lib.hid (HB6.out.trans hb7)
                have HR7 := Lib.hid (row_but HR6.out hb7 (.inr fun b off e => by injection e with e; injection e with e1 e2; subst e1; have := HG6.out; simp; omega))
                have hcell7 : w7.cell? ⟨b, off + k, none⟩ = some (.string x) := by
                  rw [hb7.cell (Nat.lt_of_lt_of_le (Nat.lt_of_lt_of_le Hbl.out HB3.out.size) HB6.out.size) (by have := HL.out; have := HLk.out; have := Hbl.out; simp; omega)]; exact hcell6
                clear hd7 hc7 hb7 hcell6 HPt HS1
                by_cases hz : e7 = 0
                · subst hz
                  obtain ⟨y1, y2, y3⟩ := HGood.out rfl
                  have hfd := HFg.out (y3 HU.out.2.1)
                  have HY := Lib.hid (And.intro y1 (And.intro y2 hfd))
                  have hc8 := HC7.out
                  rw [M.putC_ok] at hc8
                  have HC8 := Lib.hid hc8
                  clear y1 y2 y3 hfd hc8
                  go_wp2_with fail
                  go_roundw
                  case rel => exact ⟨k + 1, d7, ⟨1 - co, cg + 1, x⟩, ⟨1 - co, cg + 1, x⟩, t, G1, M.seen d 0, M.seen d 1, false, by omega, by omega, by go_num, rfl, by first | rfl | go_num, rfl, rfl, rfl, HD7.out, HC8.out, ⟨by simp only; omega, by simp only; omega⟩, Ht.out, fin_quiet HY.out.2.1 HY.out.2.2.symm _ _ _ _, HR7.out, HG6.out, fun _ => ⟨HY.out.1, HY.out.2.1, rfl, HY.out.2.2.symm⟩, HB7.out⟩
                  case measure => simp [intOf]; omega
                · have hz0 : (e7 == 0) = false := by simpa using hz
                  have HFb := Lib.hid (HBad.out hz)
                  clear hz
                  go_wp2_with fail
                  go_roundw
                  case rel => exact ⟨k + 1, d7, ⟨co, cg, ct⟩, _, x, G1, M.seen d 0, M.seen d 1, true, by omega, by omega, by go_num, rfl, rfl, rfl, rfl, rfl, HD7.out, HC7.out, ⟨hg0, by simp only; omega⟩, Hsz.out, HFb.out, HR7.out, HG6.out, (fun h => by cases h), HB7.out⟩
                  case measure => simp [intOf]; omega
          · have hge : ¬ ((k : Int) < 60) := hlt6
            go_wp2_with fail
            go_meet
            exact ⟨d, c, t, G, p0, p1, u, rfl, rfl, rfl, rfl, rfl, HDv.out, ⟨Hg.out.1, by have := Hg.out.2; omega⟩, Ht.out, HFn.out, HRo.out, HGn.out, HBu.out⟩
        · have hge : ¬ ((k : Int) < (n0 : Int)) := hlt
          by_cases hlt6 : (k : Int) < 60
          · skip
            go_wp2_with fail
            go_meet
            exact ⟨d, c, t, G, p0, p1, u, rfl, rfl, rfl, rfl, rfl, HDv.out, ⟨Hg.out.1, by have := Hg.out.2; omega⟩, Ht.out, HFn.out, HRo.out, HGn.out, HBu.out⟩
          · skip
            go_wp2_with fail
            go_meet
            exact ⟨d, c, t, G, p0, p1, u, rfl, rfl, rfl, rfl, rfl, HDv.out, ⟨Hg.out.1, by have := Hg.out.2; omega⟩, Ht.out, HFn.out, HRo.out, HGn.out, HBu.out⟩
    case rest =>
      obtain ⟨d, c, t, G, p0, p1, u, rfl, rfl, rfl, rfl, rfl, hd, hg, ht, hfin, hrow, hGn, hb⟩ := hcut
      obtain ⟨co, cg, ct⟩ := c
      simp only at hg
      have HDc := Lib.hid hd
      have HFin := Lib.hid hfin
      have HRo := Lib.hid hrow
      have HGn := Lib.hid hGn
      have HBc := Lib.hid hb
      have Hm : Hid (M.MayS (cg + 1) t) := Lib.hid ⟨by omega, by omega, ht⟩
      have HBw := Lib.hid (HB3.out.trans (hb.to_below (B := w.heap.size) (by have := HL.out; have := HLk.out; simp; omega) HB3.out.size))
      have hg0 : 0 ≤ cg := hg.1
      have hg1 : cg ≤ 60 := hg.2
      clear hd hg ht hfin hrow hGn hb
      have HCr := Lib.hid (crash_any _ HDc.out a2 n2 c2 l2 (krow_but HW2.out (But.of_below HBw.out) (.inr fun _ _ _ => by simp)) (krow_old HW2.out (by have := HL.out; simp; omega)))
      go_wp2_with fail
      refine HCr.out.mono ?_
      rintro e w5 ⟨rfl, hd5, hb5⟩
      have HD5 := Lib.hid hd5
      have HB5 := Lib.hid (HBc.out.trans (hb5.mono (by simp)))
      have HRow5 := Lib.hid (row_but HRo.out hb5 (.inr fun b off e => by injection e with e; injection e with e1 e2; subst e1; have := HGn.out; simp; omega))
      have HFk := Lib.hid (HFin.out l2)
      have hdead : (M.crashD 2 d l2).dead = false := rfl
      have Hdead := Lib.hid hdead
      clear hd5 hb5 hdead
      generalize M.crashD 2 d l2 = dc at *
      have HOp := Lib.hid (open_yes w5 HD5.out Hdead.out 0 1 (by omega) (by omega) (by omega))
      go_wp2_with fail
      refine HOp.out.mono ?_
      rintro e w6 ⟨kB6, rfl, lk, hk, hb6⟩
      have HBk : Hid (Below w.heap.size w w6) := Lib.hid (HB3.out.trans ((HB5.out.to_below (B := w.heap.size) (by have := HL.out; have := HLk.out; simp; omega) HB3.out.size).trans (hb6.mono (Nat.le_trans HB3.out.size HB5.out.size))))
      have HD6 := Lib.hid (HD5.out.but (But.of_below hb6) (by simp) (by simp) (by simp))
      have HRw := Lib.hid (row_below HRow5.out hb6 (Nat.le_refl _))
      generalize hfo : M.found (M.rdS (M.seen dc 0)) (M.rdS (M.seen dc 1)) = fo at *
      obtain ⟨fO, fg, ft⟩ := fo
      have HG := Lib.hid (get_any w6 hk)
      have HN := Lib.hid (gen_any w6 hk)
      have HSl := Lib.hid (slots_any w6 HD6.out Hdead.out 0 1 (by omega) (by omega))
      have HSy := Lib.hid (fun w => slot_yes w (cg + 1) t Hm.out)
      have HLs : Hid ((M.seen dc 0).length = 144 ∧ (M.seen dc 1).length = 144 ∧ (M.slot (cg + 1) t).length ≤ 144) := Lib.hid ⟨seen_len HD6.out.wf 0, seen_len HD6.out.wf 1, by have := M.slot_small Hm.out; omega⟩
      simp only at HFk HG HN
      clear lk hk hb6 hfo
      generalize M.slot (cg + 1) t = sl at *
      by_cases a1 : ft = ct
      · have e1 : (ft.toList == ct.toList) = true := by rw [a1]; simp
        by_cases a2 : fg = cg
        · have e2 : (fg == cg) = true := by rw [beq_iff_eq]; exact a2
          clear a1 a2
          go_wp2_with (first
            | (go_at_call 14; with_reducible refine HG.out.mono ?_; rintro e w' ⟨rfl, rfl⟩)
            | (go_at_call 15; with_reducible refine HN.out.mono ?_; rintro e w' ⟨rfl, rfl⟩))
          go_ret
          exact ⟨rfl, HBk.out⟩
        · have e2 : (fg == cg) = false := by rw [beq_eq_false_iff_ne]; exact a2
          have hnA : ¬ (fg = cg ∧ ft = ct) := fun h => a2 h.1
          obtain ⟨rfl, hF⟩ := HFk.out.resolve_left hnA
          clear hnA
          by_cases a3 : ft = t
          · have e3 : (ft.toList == t.toList) = true := by rw [a3]; simp
            by_cases a4 : fg = cg + 1
            · have e4 : (fg == cg + 1) = true := by rw [beq_iff_eq]; exact a4
              clear a1 a2 a3 a4 hF
              go_wp2_with (first
                | (go_at_call 14; with_reducible refine HG.out.mono ?_; rintro e w' ⟨rfl, rfl⟩)
                | (go_at_call 15; with_reducible refine HN.out.mono ?_; rintro e w' ⟨rfl, rfl⟩))
              go_ret
              exact ⟨rfl, HBk.out⟩
            · have e4 : (fg == cg + 1) = false := by rw [beq_eq_false_iff_ne]; exact a4
              have HTs := Lib.hid (hF.resolve_left fun h => a4 h.1)
              clear a1 a2 a3 a4 hF
              go_wp2_with (first
                | (go_at_call 14; with_reducible refine HG.out.mono ?_; rintro e w' ⟨rfl, rfl⟩)
                | (go_at_call 15; with_reducible refine HN.out.mono ?_; rintro e w' ⟨rfl, rfl⟩)
                | (go_at_call 17; refine HSl.out.mono ?_; rintro e w7 ⟨G7, rfl, lg7, hr7, hb7⟩
                   have HR7 := Lib.hid hr7
                   have HBe7 := Lib.hid hb7
                   have HB7 := Lib.hid (HBk.out.trans (hb7.mono HBk.out.size))
                   clear lg7 hr7 hb7)
                | (go_at_call 9; with_reducible refine (HSy.out _).mono ?_; rintro e w8 ⟨aS, cS, rfl, ho8, hb8⟩
                   have HO8 := Lib.hid ho8
                   have HBe8 := Lib.hid hb8
                   have HB8 := Lib.hid (HB7.out.trans (hb8.mono HB7.out.size))
                   clear ho8 hb8)
                | (go_at_call 20; refine (clash_any w8 G7 G (M.seen dc 0) (M.seen dc 1) p0 p1 (row_below HR7.out HBe8.out (Nat.le_refl _)) (row_below (row_below HRw.out HBe7.out (Nat.le_refl _)) HBe8.out (Nat.le_refl _)) aS cS sl HO8.out.row HLs.out).mono ?_
                   rw [HTs.out]
                   rintro e w9 ⟨rfl, hb9⟩
                   have HB9 := Lib.hid (HB8.out.trans (hb9.mono HB8.out.size))
                   clear hb9))
              go_ret
              exact ⟨rfl, HB9.out⟩
          · have e3 : (ft.toList == t.toList) = false := str_ne a3
            have HTs := Lib.hid (hF.resolve_left fun h => a3 h.2)
            clear a1 a2 a3 hF
            go_wp2_with (first
              | (go_at_call 14; with_reducible refine HG.out.mono ?_; rintro e w' ⟨rfl, rfl⟩)
              | (go_at_call 15; with_reducible refine HN.out.mono ?_; rintro e w' ⟨rfl, rfl⟩)
              | (go_at_call 17; refine HSl.out.mono ?_; rintro e w7 ⟨G7, rfl, lg7, hr7, hb7⟩
                 have HR7 := Lib.hid hr7
                 have HBe7 := Lib.hid hb7
                 have HB7 := Lib.hid (HBk.out.trans (hb7.mono HBk.out.size))
                 clear lg7 hr7 hb7)
              | (go_at_call 9; with_reducible refine (HSy.out _).mono ?_; rintro e w8 ⟨aS, cS, rfl, ho8, hb8⟩
                 have HO8 := Lib.hid ho8
                 have HBe8 := Lib.hid hb8
                 have HB8 := Lib.hid (HB7.out.trans (hb8.mono HB7.out.size))
                 clear ho8 hb8)
              | (go_at_call 20; refine (clash_any w8 G7 G (M.seen dc 0) (M.seen dc 1) p0 p1 (row_below HR7.out HBe8.out (Nat.le_refl _)) (row_below (row_below HRw.out HBe7.out (Nat.le_refl _)) HBe8.out (Nat.le_refl _)) aS cS sl HO8.out.row HLs.out).mono ?_
                 rw [HTs.out]
                 rintro e w9 ⟨rfl, hb9⟩
                 have HB9 := Lib.hid (HB8.out.trans (hb9.mono HB8.out.size))
                 clear hb9))
            go_ret
            exact ⟨rfl, HB9.out⟩
      · have e1 : (ft.toList == ct.toList) = false := str_ne a1
        have hnA : ¬ (fg = cg ∧ ft = ct) := fun h => a1 h.2
        obtain ⟨rfl, hF⟩ := HFk.out.resolve_left hnA
        clear hnA
        by_cases a3 : ft = t
        · have e3 : (ft.toList == t.toList) = true := by rw [a3]; simp
          by_cases a4 : fg = cg + 1
          · have e4 : (fg == cg + 1) = true := by rw [beq_iff_eq]; exact a4
            clear a1 a3 a4 hF
            go_wp2_with (first
              | (go_at_call 14; with_reducible refine HG.out.mono ?_; rintro e w' ⟨rfl, rfl⟩)
              | (go_at_call 15; with_reducible refine HN.out.mono ?_; rintro e w' ⟨rfl, rfl⟩))
            go_ret
            exact ⟨rfl, HBk.out⟩
          · have e4 : (fg == cg + 1) = false := by rw [beq_eq_false_iff_ne]; exact a4
            have HTs := Lib.hid (hF.resolve_left fun h => a4 h.1)
            clear a1 a3 a4 hF
            go_wp2_with (first
              | (go_at_call 14; with_reducible refine HG.out.mono ?_; rintro e w' ⟨rfl, rfl⟩)
              | (go_at_call 15; with_reducible refine HN.out.mono ?_; rintro e w' ⟨rfl, rfl⟩)
              | (go_at_call 17; refine HSl.out.mono ?_; rintro e w7 ⟨G7, rfl, lg7, hr7, hb7⟩
                 have HR7 := Lib.hid hr7
                 have HBe7 := Lib.hid hb7
                 have HB7 := Lib.hid (HBk.out.trans (hb7.mono HBk.out.size))
                 clear lg7 hr7 hb7)
              | (go_at_call 9; with_reducible refine (HSy.out _).mono ?_; rintro e w8 ⟨aS, cS, rfl, ho8, hb8⟩
                 have HO8 := Lib.hid ho8
                 have HBe8 := Lib.hid hb8
                 have HB8 := Lib.hid (HB7.out.trans (hb8.mono HB7.out.size))
                 clear ho8 hb8)
              | (go_at_call 20; refine (clash_any w8 G7 G (M.seen dc 0) (M.seen dc 1) p0 p1 (row_below HR7.out HBe8.out (Nat.le_refl _)) (row_below (row_below HRw.out HBe7.out (Nat.le_refl _)) HBe8.out (Nat.le_refl _)) aS cS sl HO8.out.row HLs.out).mono ?_
                 rw [HTs.out]
                 rintro e w9 ⟨rfl, hb9⟩
                 have HB9 := Lib.hid (HB8.out.trans (hb9.mono HB8.out.size))
                 clear hb9))
            go_ret
            exact ⟨rfl, HB9.out⟩
        · have e3 : (ft.toList == t.toList) = false := str_ne a3
          have HTs := Lib.hid (hF.resolve_left fun h => a3 h.2)
          clear a1 a3 hF
          go_wp2_with (first
            | (go_at_call 14; with_reducible refine HG.out.mono ?_; rintro e w' ⟨rfl, rfl⟩)
            | (go_at_call 15; with_reducible refine HN.out.mono ?_; rintro e w' ⟨rfl, rfl⟩)
            | (go_at_call 17; refine HSl.out.mono ?_; rintro e w7 ⟨G7, rfl, lg7, hr7, hb7⟩
               have HR7 := Lib.hid hr7
               have HBe7 := Lib.hid hb7
               have HB7 := Lib.hid (HBk.out.trans (hb7.mono HBk.out.size))
               clear lg7 hr7 hb7)
            | (go_at_call 9; with_reducible refine (HSy.out _).mono ?_; rintro e w8 ⟨aS, cS, rfl, ho8, hb8⟩
               have HO8 := Lib.hid ho8
               have HBe8 := Lib.hid hb8
               have HB8 := Lib.hid (HB7.out.trans (hb8.mono HB7.out.size))
               clear ho8 hb8)
            | (go_at_call 20; refine (clash_any w8 G7 G (M.seen dc 0) (M.seen dc 1) p0 p1 (row_below HR7.out HBe8.out (Nat.le_refl _)) (row_below (row_below HRw.out HBe7.out (Nat.le_refl _)) HBe8.out (Nat.le_refl _)) aS cS sl HO8.out.row HLs.out).mono ?_
               rw [HTs.out]
               rintro e w9 ⟨rfl, hb9⟩
               have HB9 := Lib.hid (HB8.out.trans (hb9.mono HB8.out.size))
               clear hb9))
          go_ret
          exact ⟨rfl, HB9.out⟩

set_option maxRecDepth 100000 in
theorem lifted (os : Os) (started : os.Started) (H : Type) (enc : TypeId × Value → H) :
    ReturnsInHanded {} Try.checked os 4 .any (Rows.cellKeepsSpec.pre6 enc Try.prog Try.f4 Rows.cellKeepsRow.domain false) (Rows.cellKeepsSpec.post enc Try.prog Try.f4 false true false false) := by
  refine returnsInHanded_of_change (C := Try.checked) own started (by kernel_rfl) Try.func4
    (ChangeSpec.witness6 (enc := enc) (C := Try.checked) false ⟨#[], #[.slice none 0 0, .int .i64 0, .slice none 0 0], []⟩ 8 (by kernel_rfl) (by kernel_rfl) (by kernel_rfl) (by kernel_rfl)) ?_
  intro W base args ds gs before hval0 hW hcnd _
  have hval : ∀ (j : Nat) t v, Try.f4.params[j]? = some t → args[j]? = some v → Value.okWide Try.prog W .any base t v := hval0
  have hW' := hW
  obtain ⟨p, q, hA0, hV, rfl, hfz, hnd⟩ := hW
  have hA : DataW.TrodAll enc Try.prog W 0 (fun _ => true) true Try.f4.params.toList args.toList ds p := hA0
  rw [Try.params4] at hA hval
  obtain ⟨v0, vs0, d0, ds0, p0, q0, hargs, rfl, rfl, h0, r0'⟩ := trodAll_cons hA
  obtain ⟨v1, vs1, d1, ds1, p1, q1, rfl, rfl, rfl, h1, r1'⟩ := trodAll_cons r0'
  obtain ⟨v2, vs2, d2, ds2, p2, q2, rfl, rfl, rfl, h2, r2'⟩ := trodAll_cons r1'
  obtain ⟨rfl, rfl, rfl⟩ := trodAll_nil r2'
  obtain rfl : args = #[v0, v1, v2] := by cases args; simp_all
  obtain ⟨rfl, rfl⟩ := trodVars_none hV
  have k0 := h0
  have lt0 : ∀ x ∈ p0, x.block < W.heap.size := by obtain ⟨m, hm⟩ := k0; exact DataW.trod_lt m _ _ _ hm
  obtain ⟨a0, n0, c0, l0, rfl, w0⟩ := open_strs h0 (okWide_slice Try.underlying35 (hval 0 35 v0 rfl rfl))
  obtain ⟨x1, rfl, rfl, rfl, w1⟩ := open_int Try.underlying3 (hval 1 3 v1 rfl rfl) h1
  have k2 := h2
  have lt2 : ∀ x ∈ p2, x.block < W.heap.size := by obtain ⟨m, hm⟩ := k2; exact DataW.trod_lt m _ _ _ hm
  obtain ⟨a2, n2, c2, l2, rfl, w2⟩ := open_crash h2 (okWide_slice Try.underlying36 (hval 2 36 v2 rfl rfl))
  clear hA0 hval0
  refine (walk a0 n0 c0 l0 x1 a2 n2 c2 l2 W w0 w1 w2).mono fun e W' ⟨he, bel⟩ => ?_
  subst he
  exact ⟨_, rfl, _, _, _, [], _, [], hW', trodAll_mk1 (shut_bool Try.underlying4 _), (trodAll_cons_mk (Below.trod laidOut (by kernel_rfl) (of_decide_eq_true (by kernel_rfl)) k0 bel lt0) (trodAll_cons_mk (shut_int Try.underlying3 w1) (trodAll_cons_mk (Below.trod laidOut (by kernel_rfl) (of_decide_eq_true (by kernel_rfl)) k2 bel lt2) trodAll_mk0))), rfl, bel.frame _, fun h => by cases h⟩

theorem over : Rows.cellKeepsRow.holds Try.pinned (OpenSpec.ofChange Rows.cellKeepsSpec) :=
  OpenClaim.holds_of_wide 4 Try.f4 rfl rfl rfl rfl rfl rfl rfl ⟨rfl, rfl, rfl, rfl, rfl⟩ rfl rfl rfl rfl rfl (by kernel_rfl) Try.func4 (by kernel_rfl)
    (of_decide_eq_true (by kernel_rfl)) (by unfold Func.isWrapper; first | (rw [if_pos (by decide +kernel)]; kernel_rfl) | (rw [if_neg (by decide +kernel)]; exact ⟨rfl, rfl⟩))
    (fun os started H enc _ => lifted os started H enc)

/-- the statement -/
theorem proved : Rows.CellKeepsSaid := over
#print axioms proved
end Go.Proofs.Ytipfhcplmlmaeaa.cellKeeps
