/-
  Trim.
-/
import Derived.Test.YtmcalgnpinolmaaGreatLog6
namespace Go.Proofs.YtmcalgnpinolmaaGreat
open Go.RowKit
set_option linter.unusedVariables false
set_option linter.unusedSimpArgs false
set_option maxRecDepth 20000

variable {dB sB mB n : Nat} {d : M.Dv} {lB rb first N : Nat} {cv : Value}

namespace M
def trimE (n : Nat) (d : Dv) (i : Nat) (sl : List UInt8) : Int := if barrierE d = 0 then putE n (barrierD d) i sl else barrierE d
def trimD (n : Nat) (d : Dv) (i : Nat) (sl : List UInt8) : Dv := if barrierE d = 0 then putD n (barrierD d) i sl else barrierD d
def trimL (e : Int) (L : Lg) (g : Nat) : Lg := if e = 0 then L.cut g else L
theorem trimL_ok (L : Lg) (g : Nat) : trimL 0 L g = L.cut g := rfl
theorem trimL_no {e : Int} (h : e ≠ 0) (L : Lg) (g : Nat) : trimL e L g = L := if_neg h
end M

theorem OwnR.set7 {w : World} {ra : Option Addr} {cap : Nat} {l : List M.Rl} (h : OwnR w ra cap l) (hra : ra = none ∨ blk lB ra ≠ lB) (v : Value) : OwnR (w.setCell ⟨lB, 7, none⟩ v) ra cap l := by
  rcases hra with z | z
  · subst z
    exact h.of_block (lB := lB + 1) (Below.heap_setCell _ _ _ _ (by simp [blk]))
  · exact h.of_block (lB := lB) (Below.heap_setCell _ _ _ _ z)

theorem trim_bad (w : World) {ra : Option Addr} {q cap : Nat} {h t l : Int} (g : LogC w lB dB first N cv h t l (.slice ra q cap)) (h1 : 0 ≤ h ∧ h ≤ 4611686018427387904) (h2 : q ≤ 1000) (k : Int) (hk : k < h ∨ h + q < k) :
    Calls Tryz.prog 126 #[.pointer (some ⟨lB, 0, none⟩), .int .i64 k] w fun e w' => e = .returned (.int .i64 1) ∧ Below w.heap.size w w' := by
  have HH := Lib.hid (head_any w g)
  have HT := Lib.hid (tail_any w g h1 h2)
  clear g
  by_cases c : k < h
  · clear hk
    go_enter Tryz.func126, Tryz.ntmps126
    go_wp2_with (go_at_call 45; with_reducible refine HH.out.mono ?_; rintro e w1 ⟨rfl, rfl⟩)
    go_ret
    exact ⟨rfl, Below.refl _ _⟩
  · have c2 : h + (q : Int) < k := by omega
    clear hk
    have cd : decide (k < h) = false := by simpa using c
    clear c
    go_enter Tryz.func126, Tryz.ntmps126
    go_wp2_with (first
      | (go_at_call 45; with_reducible refine HH.out.mono ?_; rintro e w1 ⟨rfl, rfl⟩)
      | (go_at_call 86; with_reducible refine HT.out.mono ?_; rintro e w1 ⟨rfl, j, rfl⟩))
    go_ret
    exact ⟨rfl, below_drewN _ _ _⟩

set_option maxHeartbeats 4000000 in
theorem trim_none (w : World) (hd : DevAt w dB sB mB n d) (cB a b : Nat) (c : M.Cl) (hc : CellAt w cB dB a b c) (L : M.Lg) (ra : Option Addr) (cap : Nat)
    (g : LogC w lB dB first N (.pointer (some ⟨cB, 0, none⟩)) L.head L.time L.least (.slice ra L.rs.length cap)) (hown : OwnR w ra cap L.rs) (hra : ra = none ∨ blk lB ra ≠ lB)
    (hs : cB ≠ dB ∧ cB ≠ sB ∧ cB ≠ mB) (hl : lB ≠ dB ∧ lB ≠ sB ∧ lB ≠ mB ∧ lB ≠ cB) (hr : blk lB ra ≠ dB ∧ blk lB ra ≠ sB ∧ blk lB ra ≠ mB ∧ blk lB ra ≠ cB)
    (ho : c.o ≤ 1) (hg : 0 ≤ c.gen ∧ c.gen < 4611686018427387904) (hab : a ≤ 1000 ∧ b ≤ 1000) (hin : M.InT L.head L.time L.least) (gn : Nat) (hgl : gn ≤ L.rs.length) (hi2 : M.InT (L.head + gn) L.time (M.lastT L.least (L.rs.take gn)))
    (i : Nat) (hpos : M.pos c.o a b = i) (sl : List UInt8) (hsl : M.slot (c.gen + 1) (M.txtL (L.head + gn) L.time (M.lastT L.least (L.rs.take gn))) = sl) (ev : Int) (hev : M.trimE n d i sl = ev) (h0 : gn = 0) :
    Calls Tryz.prog 126 #[.pointer (some ⟨lB, 0, none⟩), .int .i64 (L.head + gn)] w fun e w' => e = .returned (.int .i64 ev) ∧ DevAt w' dB sB mB n (M.trimD n d i sl) ∧
      CellAt w' cB dB a b (M.putC ev c (M.txtL (L.head + gn) L.time (M.lastT L.least (L.rs.take gn)))) ∧ LogAt w' lB (blk lB ra) dB first N (.pointer (some ⟨cB, 0, none⟩)) (M.trimL ev L gn) ∧ But [dB, sB, mB, cB, lB, blk lB ra] w w' := by
  have hk := hown.2
  have hh0 : 0 ≤ L.head ∧ L.head ≤ 4611686018427387904 := ⟨by have := hin.1; omega, hin.1.2⟩
  have HH := Lib.hid (head_any w g)
  have HT := Lib.hid (tail_any w g hh0 hk)
  have HHa : Hid (∀ w' h t l rv, LogC w' lB dB first N (.pointer (some ⟨cB, 0, none⟩)) h t l rv → Calls Tryz.prog 45 #[.pointer (some ⟨lB, 0, none⟩)] w' fun e w'' => e = .returned (.int .i64 h) ∧ w' = w'') := Lib.hid fun w' h t l rv q => head_any w' q
  have HS : Hid (∀ j, Calls Tryz.prog 54 #[.pointer (some ⟨lB, 0, none⟩)] (w.drewN j) fun e w' => e = .returned (.int .i64 (M.barrierE d)) ∧ DevAt w' dB sB mB n (M.barrierD d) ∧ But [dB, sB, mB] w w') := Lib.hid fun j => by
    refine (sync_any (w.drewN j) (hd.but ((But.refl [] w).drewN j) (by simp) (by simp) (by simp)) (g.of_block rfl)).mono ?_
    rintro e w' ⟨rfl, q1, q2⟩
    exact ⟨rfl, q1, ((But.refl _ w).drewN j).trans q2⟩
  obtain ⟨kk, hkk⟩ : ∃ kk, L.head + (gn : Int) = kk := ⟨_, rfl⟩
  rw [hkk] at hi2 hsl ⊢
  have c1 : decide (kk < L.head) = false := by simp; omega
  have c2 : decide (L.head + (L.rs.length : Int) < kk) = false := by simp; omega
  have c1' : L.head ≤ kk := by omega
  have c2' : kk ≤ L.head + (L.rs.length : Int) := by omega
  have hk1 : kk ≤ 4611686018427387904 := hi2.1.2
  obtain ⟨hh1, hh2⟩ := hh0
  have HD := Lib.hid hd
  have HC := Lib.hid hc
  have HG := Lib.hid g
  have HO := Lib.hid hown
  have HRa := Lib.hid hra
  have Hs := Lib.hid hs
  have Hl := Lib.hid hl
  have Hr := Lib.hid hr
  have Hg := Lib.hid hg
  have Ho := Lib.hid ho
  have Ha := Lib.hid hab
  have HP := Lib.hid hpos
  have HSl := Lib.hid hsl
  have HI := Lib.hid hi2
  have HGl := Lib.hid hgl
  have HKk := Lib.hid hkk
  have HE := Lib.hid hev
  have HLen := Lib.hid hk
  have hgo : kk - L.head = 0 := by omega
  have HLt : Hid (M.lastT L.least (L.rs.take gn) = L.least ∧ kk = L.head ∧ gn = 0) := Lib.hid ⟨by rw [h0, List.take_zero]; rfl, by omega, h0⟩
  rw [HLt.out.1] at HSl HI ⊢
  clear hd hc g hown hra hs hl hr ho hg hab hin hgl hi2 hpos hsl hev hkk hk
  have hbe : ∃ be, M.barrierE d = be := ⟨_, rfl⟩
  obtain ⟨be, hbe⟩ := hbe
  rw [hbe] at HS
  by_cases hbz : be = 0
  · subst hbz
    have HDv : Hid (M.trimD n d i sl = M.putD n (M.barrierD d) i sl) := Lib.hid (by unfold M.trimD; rw [if_pos hbe])
    have HEv : Hid (M.putE n (M.barrierD d) i sl = ev) := Lib.hid (by rw [← HE.out]; unfold M.trimE; rw [if_pos hbe])
    clear hbe
    go_enter Tryz.func126, Tryz.ntmps126
    go_wp2_with (first
      | (go_at_call 45; with_reducible refine HH.out.mono ?_; rintro e w1 ⟨rfl, rfl⟩)
      | (go_at_call 86; with_reducible refine HT.out.mono ?_; rintro e w1 ⟨rfl, j, rfl⟩)
      | (go_at_call 54; with_reducible refine (HS.out _).mono ?_; rintro e w1 ⟨rfl, hd1, hb1⟩
         have HD1 := Lib.hid hd1
         have HB1 := Lib.hid hb1
         have hg1 := HG.out.but hb1 (by have := Hl.out; simp; omega)
         have HG1 := Lib.hid hg1
         have HC1 := Lib.hid (HC.out.but hb1 (by have := Hs.out; simp; omega))
         have HO1 := Lib.hid (HO.out.of_block (lB := lB) (hb1.block _ (HO.out.lt HG.out.lt) (by have := Hr.out; simp; omega)))
         have HH1 := Lib.hid (HHa.out _ _ _ _ _ hg1)
         have p4 := hg1.p4
         have p5 := hg1.p5
         have p6 := hg1.p6
         have p7 := hg1.p7
         clear hg1
         clear hd1 hb1)
      | (go_at_call 45; with_reducible refine HH1.out.mono ?_; rintro e w2 ⟨rfl, rfl⟩))
    have HDw := Lib.hid (HD1.out.but ((But.refl [] w1).alloc (.cells #[.int .i64 L.head, .int .i64 L.time, .int .i64 L.least] 128)) (by simp) (by simp) (by simp))
    have HCw := Lib.hid (HC1.out.but ((But.refl [] w1).alloc (.cells #[.int .i64 L.head, .int .i64 L.time, .int .i64 L.least] 128)) (by simp))
    have HGw := Lib.hid (HG1.out.but ((But.refl [] w1).alloc (.cells #[.int .i64 L.head, .int .i64 L.time, .int .i64 L.least] 128)) (by simp))
    have HOw := Lib.hid (HO1.out.of_block (lB := lB) (((But.refl [] w1).alloc (.cells #[.int .i64 L.head, .int .i64 L.time, .int .i64 L.least] 128)).block _ (HO1.out.lt HG1.out.lt) (by simp)))
    have HBw := Lib.hid ((But.refl [] w1).alloc (.cells #[.int .i64 L.head, .int .i64 L.time, .int .i64 L.least] 128))
    rw [HLt.out.2.1] at HI HSl
    refine (putS_any _ HDw.out cB a b c HCw.out HGw.out Hs.out ⟨Hl.out.1, Hl.out.2.1, Hl.out.2.2.1, Hl.out.2.2.2⟩ Ho.out Hg.out Ha.out _ _ _ HI.out i HP.out sl HSl.out ev HEv.out).mono ?_
    rintro e w3 ⟨rfl, hd3, hc3, hg3, hb3⟩
    have HD3 := Lib.hid hd3
    have HC3 := Lib.hid (show CellAt w3 cB dB a b (M.putC ev c (M.txtL kk L.time L.least)) by rw [HLt.out.2.1]; exact hc3)
    have HB3 := Lib.hid hb3
    have HO3 : Hid (OwnR w3 ra cap L.rs) := Lib.hid (by
      rcases HRa.out with z | z
      · subst z
        exact HOw.out.of_block (lB := w3.heap.size) (by
          have := hb3.size
          show w3.heap[w3.heap.size]? = _
          rw [Array.getElem?_eq_none (Nat.le_refl _)]
          exact (Array.getElem?_eq_none this).symm)
      · exact HOw.out.of_block (lB := lB) (hb3.block _ (HOw.out.lt HGw.out.lt) (by have := Hr.out; simp; omega)))
    have HB3w : Hid (But [dB, sB, mB, cB, lB, blk lB ra] w w3) := Lib.hid ((HB1.out.mono (by simp)).trans ((HBw.out.mono (by simp)).trans (hb3.mono (by simp))))
    clear hd3 hc3 hb3
    by_cases he : ev = 0
    · subst he
      rw [M.pick_ok, M.pick_ok, M.pick_ok] at hg3
      have HG3 := Lib.hid hg3
      have q7 := hg3.p7
      have HDel := Lib.hid (delete_any w3 ra cap L.rs gn HO3.out HGl.out)
      clear hg3 p4 p5 p6 p7
      rw [HLt.out.2.2] at HDel
      simp only [Int.natCast_zero, Nat.sub_zero, List.drop_zero] at HDel
      go_wp2_with (go_at_call 139; with_reducible refine HDel.out.mono ?_; rintro e w4 ⟨rfl, ho4, hb4⟩
                   have HG4 := Lib.hid (HG3.out.but (hb4 (lB + 1)) (by
                     rcases HRa.out with z | z
                     · subst z; simp [blk]
                     · cases hq : ra with
                       | none => simp [blk]
                       | some q => rw [hq] at z; simp only [blk] at z ⊢; simp; omega))
                   have HO4 := Lib.hid ho4
                   have HB4 := Lib.hid (hb4 lB)
                   have HB4' := Lib.hid hb4
                   have z7 := HG4.out.p7
                   have fz := HG4.out.fz 7
                   clear ho4 hb4)
      go_ret
      have hbq : But [blk lB ra, lB] w3 (w4.setCell ⟨lB, 7, none⟩ (.slice ra L.rs.length cap)) := (HB4.out.mono (by simp)).set _ (.inl (by simp))
      have hcut : (L.cut gn).rs.length = L.rs.length := by simp [M.Lg.cut, HLt.out.2.2]
      refine ⟨rfl, by rw [HDv.out]; exact HD3.out.but hbq (by have := Hl.out; have := Hr.out; simp; omega) (by have := Hl.out; have := Hr.out; simp; omega) (by have := Hl.out; have := Hr.out; simp; omega), HC3.out.but hbq (by have := Hl.out; have := Hr.out; simp; omega), ⟨ra, cap, ?_, ?_, rfl, HRa.out⟩, HB3w.out.trans (hbq.mono (by simp))⟩
      · rw [M.trimL_ok, hcut]
        have := HG4.out.setR (.slice ra L.rs.length cap)
        have e1 : (L.cut gn).head = L.head := HKk.out.trans HLt.out.2.1
        have e2 : (L.cut gn).least = L.least := by show M.lastT L.least (L.rs.take gn) = _; exact HLt.out.1
        rw [e1, e2]
        exact this
      · rw [M.trimL_ok]
        have e3 : (L.cut gn).rs = L.rs := by show L.rs.drop gn = _; rw [HLt.out.2.2]; rfl
        rw [e3]
        exact HO4.out.set7 HRa.out _
    · have hne : (ev != 0) = true := by simpa using he
      have HN := Lib.hid he
      rw [M.pick_no he, M.pick_no he, M.pick_no he] at hg3
      have HG3 := Lib.hid hg3
      clear he hg3 p4 p5 p6 p7
      go_wp2_with fail
      go_ret
      exact ⟨rfl, by rw [HDv.out]; exact HD3.out, HC3.out, by rw [M.trimL_no HN.out]; exact ⟨ra, cap, HG3.out, HO3.out, rfl, HRa.out⟩, HB3w.out⟩
  · have hne : (be != 0) = true := by simpa using hbz
    have HDv : Hid (M.trimD n d i sl = M.barrierD d) := Lib.hid (by unfold M.trimD; rw [if_neg (by rw [hbe]; exact hbz)])
    have HEv : Hid (be = ev) := Lib.hid (by rw [← HE.out]; unfold M.trimE; rw [if_neg (by rw [hbe]; exact hbz), hbe])
    have HNz : Hid (ev ≠ 0) := Lib.hid (by rw [← HEv.out]; exact hbz)
    clear hbz hbe
    go_enter Tryz.func126, Tryz.ntmps126
    go_wp2_with (first
      | (go_at_call 45; with_reducible refine HH.out.mono ?_; rintro e w1 ⟨rfl, rfl⟩)
      | (go_at_call 86; with_reducible refine HT.out.mono ?_; rintro e w1 ⟨rfl, j, rfl⟩)
      | (go_at_call 54; with_reducible refine (HS.out _).mono ?_; rintro e w1 ⟨rfl, hd1, hb1⟩
         have HD1 := Lib.hid hd1
         have HB1 := Lib.hid hb1
         clear hd1 hb1))
    go_ret
    have hL : LogAt w lB (blk lB ra) dB first N (.pointer (some ⟨cB, 0, none⟩)) L := ⟨ra, cap, HG.out, HO.out, rfl, HRa.out⟩
    exact ⟨by rw [← HEv.out]; rfl, by rw [HDv.out]; exact HD1.out, by rw [M.putC_no HNz.out]; exact HC.out.but HB1.out (by have := Hs.out; simp; omega), by rw [M.trimL_no HNz.out]; exact hL.but HB1.out (by have := Hl.out; simp; omega) (by have := Hr.out; simp; omega), HB1.out.mono (by simp)⟩

set_option maxHeartbeats 4000000 in
theorem trim_some (w : World) (hd : DevAt w dB sB mB n d) (cB a b : Nat) (c : M.Cl) (hc : CellAt w cB dB a b c) (L : M.Lg) (ra : Option Addr) (cap : Nat)
    (g : LogC w lB dB first N (.pointer (some ⟨cB, 0, none⟩)) L.head L.time L.least (.slice ra L.rs.length cap)) (hown : OwnR w ra cap L.rs) (hra : ra = none ∨ blk lB ra ≠ lB)
    (hs : cB ≠ dB ∧ cB ≠ sB ∧ cB ≠ mB) (hl : lB ≠ dB ∧ lB ≠ sB ∧ lB ≠ mB ∧ lB ≠ cB) (hr : blk lB ra ≠ dB ∧ blk lB ra ≠ sB ∧ blk lB ra ≠ mB ∧ blk lB ra ≠ cB)
    (ho : c.o ≤ 1) (hg : 0 ≤ c.gen ∧ c.gen < 4611686018427387904) (hab : a ≤ 1000 ∧ b ≤ 1000) (hin : M.InT L.head L.time L.least) (gn : Nat) (hgl : gn ≤ L.rs.length) (hi2 : M.InT (L.head + gn) L.time (M.lastT L.least (L.rs.take gn)))
    (i : Nat) (hpos : M.pos c.o a b = i) (sl : List UInt8) (hsl : M.slot (c.gen + 1) (M.txtL (L.head + gn) L.time (M.lastT L.least (L.rs.take gn))) = sl) (ev : Int) (hev : M.trimE n d i sl = ev) (h0 : 0 < gn) :
    Calls Tryz.prog 126 #[.pointer (some ⟨lB, 0, none⟩), .int .i64 (L.head + gn)] w fun e w' => e = .returned (.int .i64 ev) ∧ DevAt w' dB sB mB n (M.trimD n d i sl) ∧
      CellAt w' cB dB a b (M.putC ev c (M.txtL (L.head + gn) L.time (M.lastT L.least (L.rs.take gn)))) ∧ LogAt w' lB (blk lB ra) dB first N (.pointer (some ⟨cB, 0, none⟩)) (M.trimL ev L gn) ∧ But [dB, sB, mB, cB, lB, blk lB ra] w w' := by
  have hk := hown.2
  have hh0 : 0 ≤ L.head ∧ L.head ≤ 4611686018427387904 := ⟨by have := hin.1; omega, hin.1.2⟩
  have HH := Lib.hid (head_any w g)
  have HT := Lib.hid (tail_any w g hh0 hk)
  have HHa : Hid (∀ w' h t l rv, LogC w' lB dB first N (.pointer (some ⟨cB, 0, none⟩)) h t l rv → Calls Tryz.prog 45 #[.pointer (some ⟨lB, 0, none⟩)] w' fun e w'' => e = .returned (.int .i64 h) ∧ w' = w'') := Lib.hid fun w' h t l rv q => head_any w' q
  have HS : Hid (∀ j, Calls Tryz.prog 54 #[.pointer (some ⟨lB, 0, none⟩)] (w.drewN j) fun e w' => e = .returned (.int .i64 (M.barrierE d)) ∧ DevAt w' dB sB mB n (M.barrierD d) ∧ But [dB, sB, mB] w w') := Lib.hid fun j => by
    refine (sync_any (w.drewN j) (hd.but ((But.refl [] w).drewN j) (by simp) (by simp) (by simp)) (g.of_block rfl)).mono ?_
    rintro e w' ⟨rfl, q1, q2⟩
    exact ⟨rfl, q1, ((But.refl _ w).drewN j).trans q2⟩
  obtain ⟨kk, hkk⟩ : ∃ kk, L.head + (gn : Int) = kk := ⟨_, rfl⟩
  rw [hkk] at hi2 hsl ⊢
  have c1 : decide (kk < L.head) = false := by simp; omega
  have c2 : decide (L.head + (L.rs.length : Int) < kk) = false := by simp; omega
  have c1' : L.head ≤ kk := by omega
  have c2' : kk ≤ L.head + (L.rs.length : Int) := by omega
  have hk1 : kk ≤ 4611686018427387904 := hi2.1.2
  obtain ⟨hh1, hh2⟩ := hh0
  have HD := Lib.hid hd
  have HC := Lib.hid hc
  have HG := Lib.hid g
  have HO := Lib.hid hown
  have HRa := Lib.hid hra
  have Hs := Lib.hid hs
  have Hl := Lib.hid hl
  have Hr := Lib.hid hr
  have Hg := Lib.hid hg
  have Ho := Lib.hid ho
  have Ha := Lib.hid hab
  have HP := Lib.hid hpos
  have HSl := Lib.hid hsl
  have HI := Lib.hid hi2
  have HGl := Lib.hid hgl
  have HKk := Lib.hid hkk
  have HE := Lib.hid hev
  have HLen := Lib.hid hk
  obtain ⟨m, hm⟩ : ∃ m, gn = m + 1 := ⟨gn - 1, by omega⟩
  have hgo : kk - L.head = (m : Int) + 1 := by omega
  obtain ⟨r, hrm⟩ : ∃ r, L.rs[m]? = some r := ⟨L.rs[m]'(by omega), List.getElem?_eq_getElem _⟩
  have HLt : Hid (M.lastT L.least (L.rs.take gn) = r.time) := Lib.hid (by rw [hm]; exact M.lastT_take hrm)
  have HRm := Lib.hid hrm
  have HMm := Lib.hid hm
  rw [HLt.out] at HSl HI ⊢
  have hm0 : (m : Int) < (L.rs.length : Int) := by omega
  have hm1 : (m : Int) ≤ 1000 := by omega
  have hm2 : (0 : Int) ≤ (m : Int) := by omega
  clear hrm hm
  clear hd hc g hown hra hs hl hr ho hg hab hin hgl hi2 hpos hsl hev hkk hk
  have hbe : ∃ be, M.barrierE d = be := ⟨_, rfl⟩
  obtain ⟨be, hbe⟩ := hbe
  rw [hbe] at HS
  by_cases hbz : be = 0
  · subst hbz
    have HDv : Hid (M.trimD n d i sl = M.putD n (M.barrierD d) i sl) := Lib.hid (by unfold M.trimD; rw [if_pos hbe])
    have HEv : Hid (M.putE n (M.barrierD d) i sl = ev) := Lib.hid (by rw [← HE.out]; unfold M.trimE; rw [if_pos hbe])
    clear hbe
    go_enter Tryz.func126, Tryz.ntmps126
    go_wp2_with (first
      | (go_at_call 45; with_reducible refine HH.out.mono ?_; rintro e w1 ⟨rfl, rfl⟩)
      | (go_at_call 86; with_reducible refine HT.out.mono ?_; rintro e w1 ⟨rfl, j, rfl⟩)
      | (go_at_call 54; with_reducible refine (HS.out _).mono ?_; rintro e w1 ⟨rfl, hd1, hb1⟩
         have HD1 := Lib.hid hd1
         have HB1 := Lib.hid hb1
         have hg1 := HG.out.but hb1 (by have := Hl.out; simp; omega)
         have HG1 := Lib.hid hg1
         have HC1 := Lib.hid (HC.out.but hb1 (by have := Hs.out; simp; omega))
         have HO1 := Lib.hid (HO.out.of_block (lB := lB) (hb1.block _ (HO.out.lt HG.out.lt) (by have := Hr.out; simp; omega)))
         have HH1 := Lib.hid (HHa.out _ _ _ _ _ hg1)
         have p4 := hg1.p4
         have p5 := hg1.p5
         have p6 := hg1.p6
         have p7 := hg1.p7
         clear hg1
         clear hd1 hb1)
      | (go_at_call 45; with_reducible refine HH1.out.mono ?_; rintro e w2 ⟨rfl, rfl⟩))
    obtain ⟨g0, hra0, hg0, k0, k1⟩ := HO1.out.cell HRm.out
    have HBa := Lib.hid ((But.refl [] w1).alloc (.cells #[.int .i64 L.head, .int .i64 L.time, .int .i64 L.least] 128))
    have HX0 : Hid ((w1.alloc (.cells #[.int .i64 L.head, .int .i64 L.time, .int .i64 L.least] 128)).cell? ⟨w1.heap.size, 0, none⟩ = some (.int .i64 L.head)) := Lib.hid (by rw [World.cell?_alloc_mark]; rfl)
    have HX1 : Hid ((w1.alloc (.cells #[.int .i64 L.head, .int .i64 L.time, .int .i64 L.least] 128)).cell? ⟨w1.heap.size, 1, none⟩ = some (.int .i64 L.time)) := Lib.hid (by rw [World.cell?_alloc_mark]; rfl)
    have HX2 : Hid ((w1.alloc (.cells #[.int .i64 L.head, .int .i64 L.time, .int .i64 L.least] 128)).cell? ⟨w1.heap.size, 2, none⟩ = some (.int .i64 L.least)) := Lib.hid (by rw [World.cell?_alloc_mark]; rfl)
    have x0 := HX0.out
    have x1 := HX1.out
    have x2 := HX2.out
    have a7 : ∀ o, (w1.alloc o).cell? ⟨lB, 7, none⟩ = some (.slice (some ⟨g0, 0, none⟩) L.rs.length cap) := fun o => by rw [← hra0]; exact (HG1.out.but ((But.refl [] w1).alloc o) (by simp)).p7
    have k0a : ∀ o, (w1.alloc o).cell? ⟨g0, m * 2, none⟩ = some (.int .i64 r.time) := fun o => by rw [World.cell?_alloc_lt _ _ _ hg0, ← Nat.zero_add (m * 2)]; exact k0
    have hwm : IntKind.i64.wrap (m : Int) = (m : Int) := by simp [IntKind.wrap, IntKind.bits, IntKind.signed]; omega
    clear k0 k1 hg0 hra0
    go_region
    have HBw := Lib.hid (((But.refl [] w1).alloc (.cells #[.int .i64 kk, .int .i64 L.time, .int .i64 r.time] 128)).drew)
    have HDw := Lib.hid (HD1.out.but HBw.out (by simp) (by simp) (by simp))
    have HCw := Lib.hid (HC1.out.but HBw.out (by simp))
    have HGw := Lib.hid (HG1.out.but HBw.out (by simp))
    have HOw := Lib.hid (HO1.out.of_block (lB := lB) (HBw.out.block _ (HO1.out.lt HG1.out.lt) (by simp)))
    clear a7 k0a x0 x1 x2 HX0 HX1 HX2
    go_wp2_with fail
    refine (putS_any _ HDw.out cB a b c HCw.out HGw.out Hs.out ⟨Hl.out.1, Hl.out.2.1, Hl.out.2.2.1, Hl.out.2.2.2⟩ Ho.out Hg.out Ha.out _ _ _ HI.out i HP.out sl HSl.out ev HEv.out).mono ?_
    rintro e w3 ⟨rfl, hd3, hc3, hg3, hb3⟩
    have HD3 := Lib.hid hd3
    have HC3 := Lib.hid hc3
    have HB3 := Lib.hid hb3
    have HO3 : Hid (OwnR w3 ra cap L.rs) := Lib.hid (by
      rcases HRa.out with z | z
      · subst z
        exact HOw.out.of_block (lB := w3.heap.size) (by
          have := hb3.size
          show w3.heap[w3.heap.size]? = _
          rw [Array.getElem?_eq_none (Nat.le_refl _)]
          exact (Array.getElem?_eq_none this).symm)
      · exact HOw.out.of_block (lB := lB) (hb3.block _ (HOw.out.lt HGw.out.lt) (by have := Hr.out; simp; omega)))
    have HB3w : Hid (But [dB, sB, mB, cB, lB, blk lB ra] w w3) := Lib.hid ((HB1.out.mono (by simp)).trans ((HBw.out.mono (by simp)).trans (hb3.mono (by simp))))
    clear hd3 hc3 hb3
    by_cases he : ev = 0
    · subst he
      rw [M.pick_ok, M.pick_ok, M.pick_ok] at hg3
      have HG3 := Lib.hid hg3
      have q7 := hg3.p7
      have HDel := Lib.hid (delete_any w3 ra cap L.rs gn HO3.out HGl.out)
      clear hg3 p4 p5 p6 p7
      rw [show ((gn : Nat) : Int) = (m : Int) + 1 by rw [HMm.out]; rfl] at HDel
      go_wp2_with (go_at_call 139; with_reducible refine HDel.out.mono ?_; rintro e w4 ⟨rfl, ho4, hb4⟩
                   have HG4 := Lib.hid (HG3.out.but (hb4 (lB + 1)) (by
                     rcases HRa.out with z | z
                     · subst z; simp [blk]
                     · cases hq : ra with
                       | none => simp [blk]
                       | some q => rw [hq] at z; simp only [blk] at z ⊢; simp; omega))
                   have HO4 := Lib.hid ho4
                   have HB4 := Lib.hid (hb4 lB)
                   have HB4' := Lib.hid hb4
                   have z7 := HG4.out.p7
                   have fz := HG4.out.fz 7
                   clear ho4 hb4)
      go_ret
      have hbq : But [blk lB ra, lB] w3 (w4.setCell ⟨lB, 7, none⟩ (.slice ra (L.rs.length - gn) cap)) := (HB4.out.mono (by simp)).set _ (.inl (by simp))
      have hcut : (L.cut gn).rs.length = (L.rs.length - gn) := by simp [M.Lg.cut]
      refine ⟨rfl, by rw [HDv.out]; exact HD3.out.but hbq (by have := Hl.out; have := Hr.out; simp; omega) (by have := Hl.out; have := Hr.out; simp; omega) (by have := Hl.out; have := Hr.out; simp; omega), HC3.out.but hbq (by have := Hl.out; have := Hr.out; simp; omega), ⟨ra, cap, ?_, ?_, rfl, HRa.out⟩, HB3w.out.trans (hbq.mono (by simp))⟩
      · rw [M.trimL_ok, hcut]
        have := HG4.out.setR (.slice ra (L.rs.length - gn) cap)
        have e1 : (L.cut gn).head = kk := HKk.out
        have e2 : (L.cut gn).least = r.time := by show M.lastT L.least (L.rs.take gn) = _; exact HLt.out
        rw [e1, e2]
        exact this
      · rw [M.trimL_ok]
        have e3 : (L.cut gn).rs = L.rs.drop gn := rfl
        rw [e3]
        exact HO4.out.set7 HRa.out _
    · have hne : (ev != 0) = true := by simpa using he
      have HN := Lib.hid he
      rw [M.pick_no he, M.pick_no he, M.pick_no he] at hg3
      have HG3 := Lib.hid hg3
      clear he hg3 p4 p5 p6 p7
      go_wp2_with fail
      go_ret
      exact ⟨rfl, by rw [HDv.out]; exact HD3.out, HC3.out, by rw [M.trimL_no HN.out]; exact ⟨ra, cap, HG3.out, HO3.out, rfl, HRa.out⟩, HB3w.out⟩
  · have hne : (be != 0) = true := by simpa using hbz
    have HDv : Hid (M.trimD n d i sl = M.barrierD d) := Lib.hid (by unfold M.trimD; rw [if_neg (by rw [hbe]; exact hbz)])
    have HEv : Hid (be = ev) := Lib.hid (by rw [← HE.out]; unfold M.trimE; rw [if_neg (by rw [hbe]; exact hbz), hbe])
    have HNz : Hid (ev ≠ 0) := Lib.hid (by rw [← HEv.out]; exact hbz)
    clear hbz hbe
    go_enter Tryz.func126, Tryz.ntmps126
    go_wp2_with (first
      | (go_at_call 45; with_reducible refine HH.out.mono ?_; rintro e w1 ⟨rfl, rfl⟩)
      | (go_at_call 86; with_reducible refine HT.out.mono ?_; rintro e w1 ⟨rfl, j, rfl⟩)
      | (go_at_call 54; with_reducible refine (HS.out _).mono ?_; rintro e w1 ⟨rfl, hd1, hb1⟩
         have HD1 := Lib.hid hd1
         have HB1 := Lib.hid hb1
         clear hd1 hb1))
    go_ret
    have hL : LogAt w lB (blk lB ra) dB first N (.pointer (some ⟨cB, 0, none⟩)) L := ⟨ra, cap, HG.out, HO.out, rfl, HRa.out⟩
    exact ⟨by rw [← HEv.out]; rfl, by rw [HDv.out]; exact HD1.out, by rw [M.putC_no HNz.out]; exact HC.out.but HB1.out (by have := Hs.out; simp; omega), by rw [M.trimL_no HNz.out]; exact hL.but HB1.out (by have := Hl.out; simp; omega) (by have := Hr.out; simp; omega), HB1.out.mono (by simp)⟩

theorem trim_any (w : World) (hd : DevAt w dB sB mB n d) (cB a b : Nat) (c : M.Cl) (hc : CellAt w cB dB a b c) (L : M.Lg) (hL : LogAt w lB rb dB first N (.pointer (some ⟨cB, 0, none⟩)) L)
    (hs : cB ≠ dB ∧ cB ≠ sB ∧ cB ≠ mB) (hl : lB ≠ dB ∧ lB ≠ sB ∧ lB ≠ mB ∧ lB ≠ cB) (hr : rb ≠ dB ∧ rb ≠ sB ∧ rb ≠ mB ∧ rb ≠ cB)
    (ho : c.o ≤ 1) (hg : 0 ≤ c.gen ∧ c.gen < 4611686018427387904) (hab : a ≤ 1000 ∧ b ≤ 1000) (hin : M.InT L.head L.time L.least) (gn : Nat) (hgl : gn ≤ L.rs.length) (hi2 : M.InT (L.cut gn).head (L.cut gn).time (L.cut gn).least)
    (i : Nat) (hpos : M.pos c.o a b = i) (sl : List UInt8) (hsl : M.slot (c.gen + 1) (M.txtL (L.cut gn).head (L.cut gn).time (L.cut gn).least) = sl) (ev : Int) (hev : M.trimE n d i sl = ev) :
    Calls Tryz.prog 126 #[.pointer (some ⟨lB, 0, none⟩), .int .i64 (L.head + gn)] w fun e w' => e = .returned (.int .i64 ev) ∧ DevAt w' dB sB mB n (M.trimD n d i sl) ∧
      CellAt w' cB dB a b (M.putC ev c (M.txtL (L.cut gn).head (L.cut gn).time (L.cut gn).least)) ∧ LogAt w' lB rb dB first N (.pointer (some ⟨cB, 0, none⟩)) (M.trimL ev L gn) ∧ But [dB, sB, mB, cB, lB, rb] w w' := by
  obtain ⟨ra, cap, g, o, rfl, hra⟩ := hL
  by_cases h0 : gn = 0
  · exact trim_none w hd cB a b c hc L ra cap g o hra hs hl hr ho hg hab hin gn hgl hi2 i hpos sl hsl ev hev h0
  · exact trim_some w hd cB a b c hc L ra cap g o hra hs hl hr ho hg hab hin gn hgl hi2 i hpos sl hsl ev hev (by omega)
end Go.Proofs.YtmcalgnpinolmaaGreat
