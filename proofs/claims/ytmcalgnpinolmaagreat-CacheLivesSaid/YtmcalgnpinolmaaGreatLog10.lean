/-
  Open, on a device without a fuse.
-/
import Derived.Test.YtmcalgnpinolmaaGreatLog7
namespace Go.Proofs.YtmcalgnpinolmaaGreat
open Go.RowKit
set_option linter.unusedVariables false
set_option linter.unusedSimpArgs false
set_option maxRecDepth 20000

variable {dB sB mB n : Nat} {d : M.Dv} {first N : Nat}

theorem has_any (w : World) {lB dB first N : Nat} {cv rv : Value} {h t l : Int} (g : LogC w lB dB first N cv h t l rv) (h1 : first ≤ 1000) (h2 : N ≤ 1000) (i : Nat) (hi : i ≤ 1000) :
    Calls Tryz.prog 57 #[.pointer (some ⟨lB, 0, none⟩), .int .i64 (i : Int)] w fun e w' => e = .returned (.bool (decide (first ≤ i ∧ i < first + N))) ∧ ∃ j, w' = w.drewN j := has_quiet w g h1 h2 i hi 0

set_option maxHeartbeats 4000000 in
theorem open_log (w : World) (hd : DevAt w dB sB mB n d) (hf : Free d) (a b : Nat) (hab : a ≠ b) (ha : a < n) (hb : b < n) (hfn : first + N ≤ n) (hN : 2 ≤ N) (haR : ¬ (first ≤ a ∧ a < first + N)) (hbR : ¬ (first ≤ b ∧ b < first + N))
    (c : M.Cl) (hc : M.found (M.rdS (M.seen d a)) (M.rdS (M.seen d b)) = c) (hg : c.gen < 4611686018427387904) (h t l : Int) (hrs : ∀ w', Calls Tryz.prog 59 #[.string c.text] w' fun e w'' => e = .returned (.agg #[.int .i64 h, .int .i64 t, .int .i64 l]) ∧ Below w'.heap.size w' w'')
    (hi : M.InT h t l) (ht : t < 4611686018427387904) (hh : h ≤ 4611686018427380000) (rs : List M.Rl) (hrs2 : M.findL (M.seen d) first N t N h l = rs) :
    Calls Tryz.prog 41 #[.pointer (some ⟨dB, 0, none⟩), .int .i64 (first : Int), .int .i64 (N : Int), .int .i64 (a : Int), .int .i64 (b : Int)] w fun e w' => ∃ lB cB rb, e = .returned (.tuple #[.pointer (some ⟨lB, 0, none⟩), .int .i64 0]) ∧
      DevAt w' dB sB mB n (M.putD n d (M.pos c.o a b) (M.slot (c.gen + 1) (M.txtL h (t + 1) l))) ∧ CellAt w' cB dB a b ⟨1 - c.o, c.gen + 1, M.txtL h (t + 1) l⟩ ∧ LogAt w' lB rb dB first N (.pointer (some ⟨cB, 0, none⟩)) ⟨h, t + 1, l, rs⟩ ∧
      (w.heap.size ≤ lB ∧ w.heap.size ≤ cB ∧ w.heap.size ≤ rb ∧ lB ≠ cB ∧ rb ≠ cB) ∧ But [dB, sB, mB] w w' := by
  have hn := hd.n512
  have HSec := Lib.hid (sectors_any w hd)
  have e1 : (2 : Int) ≤ (N : Int) := by omega
  have e2 : (first : Int) + (N : Int) ≤ (n : Int) := by omega
  have e3 : (n : Int) ≤ 512 := by omega
  have e4 : (0 : Int) ≤ (first : Int) := by omega
  have d1 : decide ((N : Int) < 2) = false := by simp; omega
  have d2 : decide ((first : Int) < 0) = false := by simp
  have d3 : decide ((n : Int) - (first : Int) < (N : Int)) = false := by simp; omega
  have HG0 := Lib.hid (logc_new w dB first N)
  have HD := Lib.hid hd
  have Hltd := Lib.hid hd.ltD
  have HB0 : Hid (Below w.heap.size w (w.alloc (.cells #[.pointer (some ⟨dB, 0, none⟩), .int .i64 (first : Int), .int .i64 (N : Int), .pointer none, .int .i64 0, .int .i64 0, .int .i64 0, .slice none 0 0] 131))) := Lib.hid ((Below.refl _ _).alloc (Nat.le_refl _) _)
  have hG : ∀ w', Below (w.heap.size + 1) (w.alloc (.cells #[.pointer (some ⟨dB, 0, none⟩), .int .i64 (first : Int), .int .i64 (N : Int), .pointer none, .int .i64 0, .int .i64 0, .int .i64 0, .slice none 0 0] 131)) w' → LogC w' w.heap.size dB first N (.pointer none) 0 0 0 (.slice none 0 0) := fun w' hb => HG0.out.below hb (Nat.lt_succ_self _)
  have HG := Lib.hid hG
  have HA : Hid (∀ w', Below (w.heap.size + 1) (w.alloc (.cells #[.pointer (some ⟨dB, 0, none⟩), .int .i64 (first : Int), .int .i64 (N : Int), .pointer none, .int .i64 0, .int .i64 0, .int .i64 0, .slice none 0 0] 131)) w' → Calls Tryz.prog 57 #[.pointer (some ⟨w.heap.size, 0, none⟩), .int .i64 (a : Int)] w' fun e w'' => e = .returned (.bool false) ∧ Below (w.heap.size + 1) (w.alloc (.cells #[.pointer (some ⟨dB, 0, none⟩), .int .i64 (first : Int), .int .i64 (N : Int), .pointer none, .int .i64 0, .int .i64 0, .int .i64 0, .slice none 0 0] 131)) w'') := Lib.hid fun w' g => by
    have := has_any w' (hG w' g) (by omega) (by omega) a (by omega)
    rw [decide_eq_false haR] at this
    refine this.mono ?_
    rintro e w'' ⟨rfl, j, rfl⟩
    exact ⟨rfl, below_dn g j⟩
  have HBb : Hid (∀ w', Below (w.heap.size + 1) (w.alloc (.cells #[.pointer (some ⟨dB, 0, none⟩), .int .i64 (first : Int), .int .i64 (N : Int), .pointer none, .int .i64 0, .int .i64 0, .int .i64 0, .slice none 0 0] 131)) w' → Calls Tryz.prog 57 #[.pointer (some ⟨w.heap.size, 0, none⟩), .int .i64 (b : Int)] w' fun e w'' => e = .returned (.bool false) ∧ Below (w.heap.size + 1) (w.alloc (.cells #[.pointer (some ⟨dB, 0, none⟩), .int .i64 (first : Int), .int .i64 (N : Int), .pointer none, .int .i64 0, .int .i64 0, .int .i64 0, .slice none 0 0] 131)) w'') := Lib.hid fun w' g => by
    have := has_any w' (hG w' g) (by omega) (by omega) b (by omega)
    rw [decide_eq_false hbR] at this
    refine this.mono ?_
    rintro e w'' ⟨rfl, j, rfl⟩
    exact ⟨rfl, below_dn g j⟩
  have HO : Hid (∀ w', DevAt w' dB sB mB n d → Calls Tryz.prog 58 #[.pointer (some ⟨dB, 0, none⟩), .int .i64 (a : Int), .int .i64 (b : Int)] w' fun e w'' => ∃ cB, e = .returned (.tuple #[.pointer (some ⟨cB, 0, none⟩), .int .i64 0]) ∧ w'.heap.size ≤ cB ∧ CellAt w'' cB dB a b c ∧ Below w'.heap.size w' w'') := Lib.hid fun w' g => by
    have := open_yes w' g hf.2 a b hab ha hb
    rw [hc] at this
    exact this
  have Hrs := Lib.hid hrs
  have Hf := Lib.hid hf
  have Hc := Lib.hid hc
  have Hg := Lib.hid hg
  have Hi := Lib.hid hi
  have Ht := Lib.hid ht
  have Hh := Lib.hid hh
  have HL : Hid (a < n ∧ b < n ∧ first + N ≤ n ∧ 2 ≤ N ∧ n ≤ 512 ∧ a ≠ b) := Lib.hid ⟨ha, hb, hfn, hN, hn, hab⟩
  have Hr2 := Lib.hid hrs2
  have htm : (t == 4611686018427387904) = false := by rw [beq_eq_false_iff_ne]; omega
  have ht0 : 0 ≤ t := hi.2.1.1
  clear hG hd hf hab ha hb hfn hN haR hbR hc hg hrs hi hh hrs2 hn
  go_enter Tryz.func41, Tryz.ntmps41
  go_wp2_with (first
    | (go_at_call 56; with_reducible refine HSec.out.mono ?_; rintro e w1 ⟨rfl, rfl⟩)
    | (go_at_call 57; with_reducible refine (HA.out _ (Below.refl _ _)).mono ?_; rintro e w1 ⟨rfl, hb1⟩; have HB1 := Lib.hid hb1; clear hb1)
    | (go_at_call 57; with_reducible refine (HBb.out _ HB1.out).mono ?_; rintro e w2 ⟨rfl, hb2⟩
       have HB2 := Lib.hid hb2
       have HW2 : Hid (Below w.heap.size w w2) := Lib.hid (HB0.out.trans (hb2.mono (by omega)))
       have HD2 := Lib.hid (HD.out.but (But.of_below HW2.out) (by simp) (by simp) (by simp))
       have HG2 := Lib.hid (HG.out _ hb2)
       clear hb2)
    | (go_at_call 58; with_reducible refine (HO.out _ HD2.out).mono ?_; rintro e w3 ⟨cB, rfl, lc, hc3, hb3⟩
       have HW3 : Hid (Below w.heap.size w w3) := Lib.hid (HW2.out.trans (hb3.mono HW2.out.size))
       have HD3 := Lib.hid (HD.out.but (But.of_below HW3.out) (by simp) (by simp) (by simp))
       have HG3 := Lib.hid (HG2.out.below hb3 HG2.out.lt)
       have HC3 := Lib.hid hc3
       have HLc : Hid (w.heap.size + 1 ≤ cB) := Lib.hid (by have := HB2.out.size; simp at this; omega)
       clear hc3 hb3 lc)
    | (go_at_call 60; with_reducible refine (get_any w3 HC3.out).mono ?_; rintro e w' ⟨rfl, rfl⟩)
    | (go_at_call 59; with_reducible refine (Hrs.out _).mono ?_; rintro e w4 ⟨rfl, hb4⟩
       have HW4 : Hid (Below w.heap.size w w4) := Lib.hid (HW3.out.trans (hb4.mono HW3.out.size))
       have HG4 := Lib.hid (HG3.out.below hb4 HG3.out.lt)
       have HC4 := Lib.hid (HC3.out.below hb4 HC3.out.lt)
       have q3 := HG4.out.p3
       have q4 := HG4.out.p4
       have q5 := HG4.out.p5
       have q6 := HG4.out.p6
       have fz := HG4.out.fz
       clear hb4))
  have HG5 := Lib.hid ((HG4.out.setC (.pointer (some ⟨cB, 0, none⟩))).setS h t l)
  have HW5 : Hid (Below w.heap.size w ((((w4.setCell ⟨w.heap.size, 3, none⟩ (.pointer (some ⟨cB, 0, none⟩))).setCell ⟨w.heap.size, 4, none⟩ (.int .i64 h)).setCell ⟨w.heap.size, 5, none⟩ (.int .i64 t)).setCell ⟨w.heap.size, 6, none⟩ (.int .i64 l))) := Lib.hid ((((HW4.out.setCell (Nat.le_refl _) _).setCell (Nat.le_refl _) _).setCell (Nat.le_refl _) _).setCell (Nat.le_refl _) _)
  have HC5 : Hid (CellAt ((((w4.setCell ⟨w.heap.size, 3, none⟩ (.pointer (some ⟨cB, 0, none⟩))).setCell ⟨w.heap.size, 4, none⟩ (.int .i64 h)).setCell ⟨w.heap.size, 5, none⟩ (.int .i64 t)).setCell ⟨w.heap.size, 6, none⟩ (.int .i64 l)) cB dB a b c) := Lib.hid (HC4.out.but (((((But.refl [w.heap.size] w4).set _ (.inl (by simp))).set _ (.inl (by simp))).set _ (.inl (by simp))).set _ (.inl (by simp))) (by have := HLc.out; simp; omega))
  clear q3 q4 q5 q6 fz HA HBb HO Hrs HSec
  generalize ((((w4.setCell ⟨w.heap.size, 3, none⟩ (.pointer (some ⟨cB, 0, none⟩))).setCell ⟨w.heap.size, 4, none⟩ (.int .i64 h)).setCell ⟨w.heap.size, 5, none⟩ (.int .i64 t)).setCell ⟨w.heap.size, 6, none⟩ (.int .i64 l)) = w5 at *
  have HD5 := Lib.hid (HD.out.but (But.of_below HW5.out) (by simp) (by simp) (by simp))
  have hlt : dB < w.heap.size ∧ sB < w.heap.size ∧ mB < w.heap.size := ⟨HD.out.ltD, HD.out.lt, HD.out.pend.lt⟩
  have Hlt := Lib.hid hlt
  refine (find_any w5 HD5.out Hf.out.2 h t l HG5.out (by omega) HL.out.2.2.1 ⟨by have := HL.out; omega, by have := HL.out; omega⟩ ⟨Hi.out.1.1, Hh.out⟩ Hi.out).mono ?_
  rintro e w6 ⟨rfl, rb, hl6, hrb, hb6⟩
  rw [Hr2.out] at hl6
  obtain ⟨ra, cap, g6, o6, rfl, hra6⟩ := hl6
  have HG6 := Lib.hid g6
  have HO6 := Lib.hid o6
  have HRa := Lib.hid hra6
  have HRb := Lib.hid hrb
  have HB6 := Lib.hid hb6
  have HD6 := Lib.hid (HD5.out.but hb6 (by simp; omega) (by simp; omega) (by simp; omega))
  have HC6 := Lib.hid (HC5.out.but hb6 (by have := HLc.out; simp; omega))
  have p4 := g6.p4
  have p5 := g6.p5
  have p6 := g6.p6
  clear g6 o6 hra6 hrb hb6 hlt
  go_wp2_with fail
  have HN7 := Lib.hid (((But.refl [] w6).alloc (.cells #[.int .i64 h, .int .i64 (t + 1), .int .i64 l] 128)))
  have hfree := put_free Hf.out HD.out.wf (show M.pos c.o a b < n by have := HL.out; unfold M.pos; split <;> omega) (l := M.slot (c.gen + 1) (M.txtL h (t + 1) l)) (by
    have := M.slot_small (g := c.gen + 1) (t := M.txtL h (t + 1) l) ⟨by have := M.found_gen (M.seen d a) (M.seen d b); rw [Hc.out] at this; omega, by have := Hg.out; omega, by have := M.txtL_size h (t + 1) l; omega⟩
    omega)
  have Hfr := Lib.hid hfree.1
  clear hfree
  refine (putS_any _ (HD6.out.but HN7.out (by simp) (by simp) (by simp)) cB a b c (HC6.out.but HN7.out (by simp)) (HG6.out.but HN7.out (by simp)) (by have := Hlt.out; have := HLc.out; omega) (by have := Hlt.out; have := HLc.out; omega)
    (by have := M.found_o (M.seen d a) (M.seen d b); rw [Hc.out] at this; exact this) (by have := M.found_gen (M.seen d a) (M.seen d b); rw [Hc.out] at this; exact ⟨this.1, Hg.out⟩) (by have := HL.out; omega) h (t + 1) l ⟨Hi.out.1, ⟨by omega, by have := Ht.out; omega⟩, Hi.out.2.2⟩
    (M.pos c.o a b) rfl (M.slot (c.gen + 1) (M.txtL h (t + 1) l)) rfl 0 Hfr.out).mono ?_
  rintro e w8 ⟨rfl, hd8, hc8, hg8, hb8⟩
  rw [M.pick_ok, M.pick_ok, M.pick_ok] at hg8
  rw [M.putC_ok] at hc8
  have HD8 := Lib.hid hd8
  have HC8 := Lib.hid hc8
  have HG8 := Lib.hid hg8
  have HB8 := Lib.hid hb8
  clear hd8 hc8 hg8 hb8 p4 p5 p6
  go_wp2_with fail
  go_ret2
  have hcl := HC5.out.lt
  have hlc := HLc.out
  have hlt := Hlt.out
  have hw5 := HW5.out.size
  have hrb2 : blk w.heap.size ra = w.heap.size ∨ w5.heap.size ≤ blk w.heap.size ra := HRb.out
  have hbt : But [w.heap.size, cB, dB, sB, mB] w w8 := ((((But.of_below HW5.out).mono (by simp)).trans (HB6.out.mono (by simp))).trans (HN7.out.mono (by simp))).trans (HB8.out.mono (by simp))
  have hbt2 : But [dB, sB, mB] w w8 := ⟨hbt.os, hbt.tape, hbt.output, hbt.size, fun k hk hn => hbt.block k hk (by simp at hn ⊢; omega)⟩
  refine ⟨w.heap.size, cB, blk w.heap.size ra, rfl, HD8.out, HC8.out, ⟨ra, cap, HG8.out, ?_, rfl, HRa.out⟩, ⟨Nat.le_refl _, by omega, by omega, by omega, by omega⟩, hbt2⟩
  rcases HRa.out with z | z
  · subst z
    have hnil : OwnR w6 none cap rs := HO6.out
    exact hnil.of_block (lB := w8.heap.size) (by
      show w8.heap[w8.heap.size]? = w6.heap[w8.heap.size]?
      have := HB8.out.size
      have := HN7.out.size
      rw [Array.getElem?_eq_none (Nat.le_refl _), Array.getElem?_eq_none (by omega)])
  · have h6 := HO6.out.lt HG6.out.lt
    exact HO6.out.of_block (lB := w.heap.size) ((HB8.out.block _ (by have := HN7.out.size; omega) (by simp; omega)).trans (HN7.out.block _ h6 (by simp)))
end Go.Proofs.YtmcalgnpinolmaaGreat
