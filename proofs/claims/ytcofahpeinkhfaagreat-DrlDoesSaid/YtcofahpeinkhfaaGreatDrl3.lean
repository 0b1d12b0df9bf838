/-
  Put in every case; what Mark, Clear and Open of a list tell, and what becomes of the list, its cell and their device.
-/
import Derived.Test.YtcofahpeinkhfaaGreatDrl2
namespace Go.Proofs.YtcofahpeinkhfaaGreat
open Go.RowKit
set_option linter.unusedVariables false
set_option linter.unusedSimpArgs false
set_option maxRecDepth 20000

variable {dB sB mB n : Nat} {d : M.Dv}

namespace M
/-- what Put tells, and makes of the device and the cell, also where no generation is left -/
def puE (n : Nat) (d : Dv) (a b : Nat) (c : Cl) (t : ByteArray) : Int := if c.gen = 4611686018427387904 then 23 else putE n d (pos c.o a b) (slot (c.gen + 1) t)
def puD (n : Nat) (d : Dv) (a b : Nat) (c : Cl) (t : ByteArray) : Dv := if c.gen = 4611686018427387904 then d else putD n d (pos c.o a b) (slot (c.gen + 1) t)
def puC (n : Nat) (d : Dv) (a b : Nat) (c : Cl) (t : ByteArray) : Cl := if c.gen = 4611686018427387904 then c else putC (putE n d (pos c.o a b) (slot (c.gen + 1) t)) c t
end M

theorem put_seq (w : World) {cB a b : Nat} {c : M.Cl} (hc : CellAt w cB dB a b c) (hg : c.gen = 4611686018427387904) (t : ByteArray) (ht : t.size ≤ 100) :
    Calls Tryz.prog 39 #[.pointer (some ⟨cB, 0, none⟩), .string t] w fun e w' => e = .returned (.int .i64 23) ∧ w = w' := by
  have p4 := hc.p4
  rw [hg] at p4
  have h' : (t.size : Int) ≤ 100 := by omega
  clear hc hg ht
  go_enter Tryz.func39, Tryz.ntmps39
  go_wp2
  go_ret
  exact ⟨rfl, rfl⟩

theorem put_all (w : World) (h : DevAt w dB sB mB n d) (cB a b : Nat) (c : M.Cl) (hc : CellAt w cB dB a b c) (hs : cB ≠ dB ∧ cB ≠ sB ∧ cB ≠ mB) (ho : c.o ≤ 1) (hg : 0 ≤ c.gen ∧ c.gen ≤ 4611686018427387904) (hab : a ≤ 1000 ∧ b ≤ 1000) (t : ByteArray) (ht : t.size ≤ 100) :
    Calls Tryz.prog 39 #[.pointer (some ⟨cB, 0, none⟩), .string t] w fun e w' => e = .returned (.int .i64 (M.puE n d a b c t)) ∧ DevAt w' dB sB mB n (M.puD n d a b c t) ∧
      CellAt w' cB dB a b (M.puC n d a b c t) ∧ But [dB, sB, mB, cB] w w' := by
  unfold M.puE M.puD M.puC
  by_cases hz : c.gen = 4611686018427387904
  · rw [if_pos hz, if_pos hz, if_pos hz]
    refine (put_seq w hc hz t ht).mono ?_
    rintro e w' ⟨rfl, rfl⟩
    exact ⟨rfl, h, hc, But.refl _ _⟩
  · rw [if_neg hz, if_neg hz, if_neg hz]
    exact put_any w h cB a b c hc hs ho ⟨hg.1, by omega⟩ hab t ht

theorem D.all_nil {g m : Nat} (hm : m < 2 ^ g) : (B.M.all g m).length = 0 ↔ m = 0 := by
  constructor
  · intro h
    have he : B.M.all g m = [] := List.length_eq_zero_iff.1 h
    apply B.M.same_bits
    intro j
    rw [Nat.zero_testBit]
    by_cases hj : j < g
    · cases hb : m.testBit j with
      | false => rfl
      | true =>
        have : j ∈ B.M.all g m := B.M.all_mem.2 ⟨hj, hb⟩
        rw [he] at this; cases this
    · exact B.M.bit_off hm (by omega)
  · rintro rfl; rw [B.M.all_none]; rfl

/-- what a list is: a device, a cell and the list itself, in blocks apart -/
structure LD (w : World) (dB sB mB n : Nat) (d : M.Dv) (lB cB a b bl : Nat) (c : M.Cl) : Prop where
  dev : DevAt w dB sB mB n d
  cel : CellAt w cB dB a b c
  li : ListAt w lB cB bl
  cd : cB ≠ dB ∧ cB ≠ sB ∧ cB ≠ mB
  ld : lB ≠ dB ∧ lB ≠ sB ∧ lB ≠ mB ∧ lB ≠ cB
  o1 : c.o ≤ 1
  gn : 0 ≤ c.gen ∧ c.gen ≤ 4611686018427387904
  tx : c.text.size ≤ 100
  bl1 : 1 ≤ bl ∧ bl ≤ 32
  ab : a ≤ 1000 ∧ b ≤ 1000

theorem mark_out (w : World) {lB cB bl : Nat} (hl : ListAt w lB cB bl) (i : Int) (hi : ¬ (0 ≤ i ∧ i < (bl : Int))) :
    Calls Tryz.prog 10 #[.pointer (some ⟨lB, 0, none⟩), .int .i64 i] w fun e w' => e = .returned (.int .i64 2) ∧ w = w' := by
  have HRe := Lib.hid (lreach_any w hl i)
  rw [decide_eq_false hi] at HRe
  clear hl hi
  go_enter Tryz.func10, Tryz.ntmps10
  go_wp2_with (go_at_call 36; with_reducible refine HRe.out.mono ?_; rintro e w1 ⟨rfl, rfl⟩)
  go_ret
  exact ⟨rfl, rfl⟩

theorem mark_has (w : World) {lB cB a b bl : Nat} {c : M.Cl} (hl : ListAt w lB cB bl) (hc : CellAt w cB dB a b c) (hb : 1 ≤ bl ∧ bl ≤ 32) (ht : c.text.size ≤ 100) (k : Nat) (hk : k < bl) (hbit : (D.marks bl c.text).testBit (k / 4) = true) :
    Calls Tryz.prog 10 #[.pointer (some ⟨lB, 0, none⟩), .int .i64 (k : Int)] w fun e w' => e = .returned (.int .i64 0) ∧ Below w.heap.size w w' := by
  have HRe := Lib.hid (lreach_any w hl (k : Int))
  rw [decide_eq_true (show 0 ≤ (k : Int) ∧ (k : Int) < (bl : Int) from ⟨by omega, by omega⟩)] at HRe
  have HH := Lib.hid (lhas_any w hl hc hb ht (k : Int))
  rw [D.has_nat hk, hbit] at HH
  clear hl hc hb ht hk hbit
  go_enter Tryz.func10, Tryz.ntmps10
  go_wp2_with (first
    | (go_at_call 36; with_reducible refine HRe.out.mono ?_; rintro e w1 ⟨rfl, rfl⟩)
    | (go_at_call 24; with_reducible refine HH.out.mono ?_; rintro e w2 ⟨rfl, hb⟩; have Hb := Lib.hid hb; clear hb))
  go_ret
  exact ⟨rfl, Hb.out⟩

set_option maxHeartbeats 2000000 in
theorem mark_put (w : World) {lB cB a b bl : Nat} {c : M.Cl} (h : LD w dB sB mB n d lB cB a b bl c) (k : Nat) (hk : k < bl) (hbit : (D.marks bl c.text).testBit (k / 4) = false) (t : ByteArray) (ht : t = str (B.M.txt (D.regs bl) (B.M.put (D.marks bl c.text) (k / 4)))) :
    Calls Tryz.prog 10 #[.pointer (some ⟨lB, 0, none⟩), .int .i64 (k : Int)] w fun e w' => e = .returned (.int .i64 (M.puE n d a b c t)) ∧ DevAt w' dB sB mB n (M.puD n d a b c t) ∧
      CellAt w' cB dB a b (M.puC n d a b c t) ∧ But [dB, sB, mB, cB] w w' := by
  have HL := Lib.hid h
  obtain ⟨hd, hc, hl, hcd, hld, ho, hg, htx, hb, hab⟩ := h
  have hlt := hl.lt
  have HRe := Lib.hid (lreach_any w hl (k : Int))
  rw [decide_eq_true (show 0 ≤ (k : Int) ∧ (k : Int) < (bl : Int) from ⟨by omega, by omega⟩)] at HRe
  have HH := Lib.hid (lhas_any w hl hc hb htx (k : Int))
  rw [D.has_nat hk, hbit] at HH
  have hr := D.reg_lt hk
  have h8 := D.regs_le hb.2
  have hm := D.marks_lt bl c.text
  have HRow := fun (w1 : World) (hb1 : Below w.heap.size w w1) => Lib.hid (row_any w1 (hl.below hb1 hl.lt) (hc.below hb1 hc.lt) hb htx)
  have HG := fun w => Lib.hid (region_any k w (by omega))
  have HP := fun w => Lib.hid (B.put_any (D.regs bl) (D.marks bl c.text) ((k / 4 : Nat) : Int) w (by omega) hm)
  obtain ⟨e1, e2, e3⟩ := B.putM_in (n := D.regs bl) (m := D.marks bl c.text) hr
  simp only [e1, e2, e3] at HP
  have HT := fun w => Lib.hid (B.text_any (D.regs bl) (B.M.put (D.marks bl c.text) (k / 4)) w (by omega) (B.M.put_lt hm hr))
  have ht2 : B.str (B.M.txt (D.regs bl) (B.M.put (D.marks bl c.text) (k / 4))) = t := ht.symm
  simp only [ht2] at HT
  have Hts : Hid (t.size ≤ 100) := Lib.hid (by rw [ht]; exact D.txt_small hb.2)
  clear hbit e1 e2 e3 ht2 ht hm hr
  generalize D.marks bl c.text = m at *
  generalize B.M.put m (k / 4) = m2 at *
  generalize D.regs bl = g at *
  generalize hq : k / 4 = q at *
  unfold B.V at *
  clear hl hc hb hq hd hcd hld ho hg htx hab hk h8
  go_enter Tryz.func10, Tryz.ntmps10
  go_wp2_with (first
    | (go_at_call 36; with_reducible refine HRe.out.mono ?_; rintro e w1 ⟨rfl, rfl⟩)
    | (go_at_call 24; with_reducible refine HH.out.mono ?_; rintro e w2 ⟨rfl, hb2⟩; have HB2 := Lib.hid hb2; clear hb2)
    | (go_at_call 26; refine (HRow _ HB2.out).out.mono ?_; rintro e w3 ⟨rfl, hb3⟩; have HB3 := Lib.hid (B.below_up HB2.out hb3 HB2.out.size); clear hb3)
    | (go_at_call 38; with_reducible refine (HG _).out.mono ?_; rintro e w4 ⟨rfl, rfl⟩)
    | (go_at_call 37; with_reducible refine (HP _).out.mono ?_; rintro e w5 ⟨rfl, hb5⟩; have HB5 := Lib.hid (B.below_up HB3.out hb5 HB3.out.size); clear hb5))
  have HR0 := Lib.hid (B.at_new w5 g m2)
  have HB0 := Lib.hid (HB5.out.alloc HB5.out.size (.cells #[.int .i64 (g : Int), .int .u64 (m2 : Int)] 54))
  have hlt5 : w.heap.size ≤ w5.heap.size := HB5.out.size
  generalize w5.alloc (.cells #[.int .i64 (g : Int), .int .u64 (m2 : Int)] 54) = W0 at *
  have HL0 := Lib.hid (HL.out.li.below HB0.out hlt)
  have q0 := HL0.out.q0
  obtain ⟨k0, k1, _⟩ := HR0.out
  go_region_held3 (fun w' => w'.cell? ⟨lB, 0, none⟩ = some (.pointer (some ⟨cB, 0, none⟩)) ∧ w'.cell? ⟨w5.heap.size, 0, none⟩ = some (.int .i64 (g : Int)) ∧ w'.cell? ⟨w5.heap.size, 1, none⟩ = some (.int .u64 (m2 : Int)))
    (first
      | exact ⟨q0, k0, k1⟩
      | exact ⟨L1.out.q0, R1.out.c0, R1.out.c1⟩
      | exact ⟨L2.out.q0, R2.out.c0, R2.out.c1⟩)
    (first
      | (go_at_call 27; refine (HT _).out.mono ?_; rintro e w6 ⟨rfl, hb6⟩
         have B1 : Hid (Below w.heap.size w w6) := Lib.hid (B.below_up HB0.out.drew hb6 HB0.out.size)
         have L1 : Hid (ListAt w6 lB cB bl) := Lib.hid (HL.out.li.below B1.out hlt)
         have R1 : Hid (B.At w6 w5.heap.size g m2) := Lib.hid ((HR0.out.drew).below hb6 HR0.out.lt)
         have D1 : Hid (DevAt w6 dB sB mB n d) := Lib.hid (HL.out.dev.but (But.of_below B1.out) (by simp) (by simp) (by simp))
         have C1 : Hid (CellAt w6 cB dB a b c) := Lib.hid (HL.out.cel.below B1.out HL.out.cel.lt)
         clear hb6)
      | (go_at_call 39; refine (put_all w6 D1.out cB a b c C1.out HL.out.cd HL.out.o1 HL.out.gn HL.out.ab t Hts.out).mono ?_; rintro e w7 ⟨rfl, hd7, hc7, hb7⟩
         have D2 := Lib.hid hd7
         have C2 := Lib.hid hc7
         have B2 : Hid (But [dB, sB, mB, cB] w w7) := Lib.hid (((But.of_below B1.out).mono (by simp)).trans hb7)
         have L2 : Hid (ListAt w7 lB cB bl) := Lib.hid (L1.out.but hb7 (by have := HL.out.ld; simp; omega))
         have R2 : Hid (B.At w7 w5.heap.size g m2) := Lib.hid (R1.out.of_block (hb7.block _ R1.out.lt (by have h1 := HL.out.dev.ltD; have h2 := HL.out.dev.lt; have h3 := HL.out.dev.pend.lt; have h4 := HL.out.cel.lt; simp; omega)))
         clear hd7 hc7 hb7))
  go_wp2_with fail
  go_ret
  exact ⟨rfl, D2.out, C2.out, B2.out⟩

theorem clear_none (w : World) {lB cB a b bl : Nat} {c : M.Cl} (hl : ListAt w lB cB bl) (hc : CellAt w cB dB a b c) (hb : 1 ≤ bl ∧ bl ≤ 32) (ht : c.text.size ≤ 100) (hz : D.marks bl c.text = 0) :
    Calls Tryz.prog 12 #[.pointer (some ⟨lB, 0, none⟩)] w fun e w' => e = .returned (.int .i64 0) ∧ Below w.heap.size w w' := by
  have HRow := Lib.hid (row_any w hl hc hb ht)
  have h8 := D.regs_le hb.2
  have HC := fun w => Lib.hid (B.count_any (D.regs bl) 0 w (by omega) (Nat.two_pow_pos _))
  rw [B.M.all_none] at HC
  rw [hz] at HRow
  generalize D.regs bl = g at *
  unfold B.V at *
  have hz0 : ((0 : Nat) : Int) = 0 := rfl
  simp only [hz0, List.length_nil] at HRow HC
  clear hl hc hb ht hz h8 hz0
  go_enter Tryz.func12, Tryz.ntmps12
  go_wp2_with (first
    | (go_at_call 26; with_reducible refine HRow.out.mono ?_; rintro e w2 ⟨rfl, hb2⟩; have HB2 := Lib.hid hb2; clear hb2)
    | (go_at_call 42; with_reducible refine (HC _).out.mono ?_; rintro e w4 ⟨rfl, hb4⟩; have HB4 := Lib.hid (B.below_up HB2.out hb4 HB2.out.size); clear hb4))
  go_ret
  exact ⟨rfl, HB4.out⟩

set_option maxHeartbeats 2000000 in
theorem clear_put (w : World) {lB cB a b bl : Nat} {c : M.Cl} (h : LD w dB sB mB n d lB cB a b bl c) (hz : D.marks bl c.text ≠ 0) (t : ByteArray) (ht : t = str (B.M.txt (D.regs bl) 0)) :
    Calls Tryz.prog 12 #[.pointer (some ⟨lB, 0, none⟩)] w fun e w' => e = .returned (.int .i64 (M.puE n d a b c t)) ∧ DevAt w' dB sB mB n (M.puD n d a b c t) ∧
      CellAt w' cB dB a b (M.puC n d a b c t) ∧ But [dB, sB, mB, cB] w w' := by
  have HL := Lib.hid h
  obtain ⟨hd, hc, hl, hcd, hld, ho, hg, htx, hb, hab⟩ := h
  have hlt := hl.lt
  have h8 := D.regs_le hb.2
  have hm := D.marks_lt bl c.text
  have HRow := Lib.hid (row_any w hl hc hb htx)
  have HC := fun w => Lib.hid (B.count_any (D.regs bl) (D.marks bl c.text) w (by omega) hm)
  have hne : (((B.M.all (D.regs bl) (D.marks bl c.text)).length : Int) == 0) = false := by
    rw [beq_eq_false_iff_ne]
    intro h
    exact hz ((D.all_nil hm).1 (by omega))
  have HRs := fun (w1 : World) (hb1 : Below w.heap.size w w1) => Lib.hid (regions_any w1 (hl.below hb1 hl.lt) hb)
  have HN := fun w => Lib.hid (B.new_any (D.regs bl : Int) w)
  have hlen : B.M.len (D.regs bl : Int) = D.regs bl := by
    unfold B.M.len
    rw [if_pos ⟨by omega, by omega⟩]
    simp
  simp only [hlen] at HN
  have HT := fun w => Lib.hid (B.text_any (D.regs bl) 0 w (by omega) (Nat.two_pow_pos _))
  have ht2 : B.str (B.M.txt (D.regs bl) 0) = t := ht.symm
  simp only [ht2] at HT
  have Hts : Hid (t.size ≤ 100) := Lib.hid (by rw [ht]; exact D.txt_small hb.2)
  clear ht2 ht hm hz hlen
  generalize (B.M.all (D.regs bl) (D.marks bl c.text)).length = q at *
  generalize D.marks bl c.text = m at *
  generalize D.regs bl = g at *
  unfold B.V at *
  have hz0 : ((0 : Nat) : Int) = 0 := rfl
  simp only [hz0] at HN HT
  clear hl hc hb hd hcd hld ho hg htx hab h8 hz0
  go_enter Tryz.func12, Tryz.ntmps12
  go_wp2_with (first
    | (go_at_call 26; with_reducible refine HRow.out.mono ?_; rintro e w2 ⟨rfl, hb2⟩; have HB2 := Lib.hid hb2; clear hb2)
    | (go_at_call 42; with_reducible refine (HC _).out.mono ?_; rintro e W0 ⟨rfl, hb4⟩; have HB0 := Lib.hid (B.below_up HB2.out hb4 HB2.out.size); clear hb4))
  have HL0 := Lib.hid (HL.out.li.below HB0.out hlt)
  have q0 := HL0.out.q0
  go_region_held3 (fun w' => w'.cell? ⟨lB, 0, none⟩ = some (.pointer (some ⟨cB, 0, none⟩)))
    (first
      | exact q0
      | exact (HL.out.li.below B3.out hlt).q0
      | exact (HL.out.li.below B1.out hlt).q0
      | exact L2.out.q0)
    (first
      | (go_at_call 44; refine (HRs _ HB0.out.drew).out.mono ?_; rintro e w3 ⟨rfl, rfl⟩)
      | (go_at_call 43; refine (HN _).out.mono ?_; rintro e w5 ⟨rfl, hb5⟩
         have B3 : Hid (Below w.heap.size w w5) := Lib.hid (B.below_up HB0.out.drew hb5 HB0.out.size)
         clear hb5)
      | (go_at_call 27; refine (HT _).out.mono ?_; rintro e w6 ⟨rfl, hb6⟩
         have B1 : Hid (Below w.heap.size w w6) := Lib.hid (B.below_up B3.out hb6 B3.out.size)
         have L1 : Hid (ListAt w6 lB cB bl) := Lib.hid (HL.out.li.below B1.out hlt)
         have D1 : Hid (DevAt w6 dB sB mB n d) := Lib.hid (HL.out.dev.but (But.of_below B1.out) (by simp) (by simp) (by simp))
         have C1 : Hid (CellAt w6 cB dB a b c) := Lib.hid (HL.out.cel.below B1.out HL.out.cel.lt)
         clear hb6)
      | (go_at_call 39; refine (put_all w6 D1.out cB a b c C1.out HL.out.cd HL.out.o1 HL.out.gn HL.out.ab t Hts.out).mono ?_; rintro e w7 ⟨rfl, hd7, hc7, hb7⟩
         have D2 := Lib.hid hd7
         have C2 := Lib.hid hc7
         have B2 : Hid (But [dB, sB, mB, cB] w w7) := Lib.hid (((But.of_below B1.out).mono (by simp)).trans hb7)
         have L2 : Hid (ListAt w7 lB cB bl) := Lib.hid (L1.out.but hb7 (by have := HL.out.ld; simp; omega))
         clear hd7 hc7 hb7))
  go_wp2_with fail
  go_ret
  exact ⟨rfl, D2.out, C2.out, B2.out⟩

theorem lopen_arg (w : World) (p : Option Addr) (a b bl : Int) (hb : bl < 1 ∨ 32 < bl) :
    Calls Tryz.prog 7 #[.pointer p, .int .i64 a, .int .i64 b, .int .i64 bl] w fun e w' => e = .returned (.tuple #[.pointer none, .int .i64 1]) ∧ w = w' := by
  by_cases h1 : bl < 1
  · clear hb
    go_enter Tryz.func7, Tryz.ntmps7
    go_wp2
    go_ret2
    exact ⟨rfl, rfl⟩
  · have h2 : 32 < bl := by omega
    clear hb
    go_enter Tryz.func7, Tryz.ntmps7
    go_wp2
    go_ret2
    exact ⟨rfl, rfl⟩

theorem lopen_fail (w : World) (p : Option Addr) (a b : Int) (bl : Nat) (hb : 1 ≤ bl ∧ bl ≤ 32) (e0 : Int) (he : e0 ≠ 0)
    (HC : Calls Tryz.prog 32 #[.pointer p, .int .i64 a, .int .i64 b] w fun e w' => e = .returned (.tuple #[.pointer none, .int .i64 e0]) ∧ Below w.heap.size w w') :
    Calls Tryz.prog 7 #[.pointer p, .int .i64 a, .int .i64 b, .int .i64 (bl : Int)] w fun e w' => e = .returned (.tuple #[.pointer none, .int .i64 e0]) ∧ Below w.heap.size w w' := by
  have h1 : ¬ (bl : Int) < 1 := by omega
  have h2 : ¬ (32 : Int) < (bl : Int) := by omega
  have h3 : (e0 != 0) = true := by simpa using he
  have HC := Lib.hid HC
  clear hb he
  go_enter Tryz.func7, Tryz.ntmps7
  go_wp2_with (go_at_call 32; with_reducible refine HC.out.mono ?_; rintro e w2 ⟨rfl, hb2⟩; have HB2 := Lib.hid hb2; clear hb2)
  go_ret2
  exact ⟨rfl, HB2.out⟩

theorem lopen_yes (w : World) (h : DevAt w dB sB mB n d) (hdead : d.dead = false) (a b : Nat) (hab : a ≠ b) (ha : a < n) (hb : b < n) (bl : Nat) (hbl : 1 ≤ bl ∧ bl ≤ 32) :
    Calls Tryz.prog 7 #[.pointer (some ⟨dB, 0, none⟩), .int .i64 (a : Int), .int .i64 (b : Int), .int .i64 (bl : Int)] w fun e w' => ∃ lB cB, e = .returned (.tuple #[.pointer (some ⟨lB, 0, none⟩), .int .i64 0]) ∧ w.heap.size ≤ cB ∧ w.heap.size ≤ lB ∧ lB ≠ cB ∧
      LD w' dB sB mB n d lB cB a b bl (M.found (M.rdS (M.seen d a)) (M.rdS (M.seen d b))) ∧ Below w.heap.size w w' := by
  have h1 : ¬ (bl : Int) < 1 := by omega
  have h2 : ¬ (32 : Int) < (bl : Int) := by omega
  have HC := Lib.hid (open_yes w h hdead a b hab ha hb)
  have HD := Lib.hid h
  have Hx := Lib.hid (And.intro hbl (And.intro (show a ≤ 1000 by have := h.n512; omega) (show b ≤ 1000 by have := h.n512; omega)))
  clear h hdead hab ha hb hbl
  go_enter Tryz.func7, Tryz.ntmps7
  go_wp2_with (go_at_call 32; with_reducible refine HC.out.mono ?_; rintro e w2 ⟨cB, rfl, hcB, hc2, hb2⟩; have HB2 := Lib.hid hb2; have HC2 := Lib.hid hc2; have HcB := Lib.hid hcB; clear hb2 hc2 hcB)
  go_ret2
  have h3 := HD.out.ltD
  have h4 := HD.out.lt
  have h5 := HD.out.pend.lt
  have h6 := HcB.out
  have h7 := HC2.out.lt
  have h8 := HB2.out.size
  refine ⟨w2.heap.size, cB, rfl, HcB.out, h8, by omega, ⟨?_, HC2.out.below (B.bel1 w2 _) h7, list_new w2 cB bl, by omega, by omega, M.found_o _ _, M.found_gen _ _, M.found_text _ _, Hx.out.1, Hx.out.2⟩, B.below_up HB2.out (B.bel1 w2 _) h8⟩
  exact HD.out.but ((But.refl [] w).below (B.below_up HB2.out (B.bel1 w2 _) h8) (Nat.le_refl _)) (by simp) (by simp) (by simp)
end Go.Proofs.YtcofahpeinkhfaaGreat
