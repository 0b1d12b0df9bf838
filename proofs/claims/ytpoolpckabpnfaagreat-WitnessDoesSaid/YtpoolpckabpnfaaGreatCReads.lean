/-
  What the reader's small steps do: need, take, next, counts, text: each answers, or panics with the error that there is no record. CONDITIONS: the reader holds a row of bytes.
-/
import Derived.Test.YtpoolpckabpnfaaGreatCMem
import Derived.WalkLawsBesides
import Derived.Defers
import Derived.Recover
namespace Go.Proofs.YtpoolpckabpnfaaGreat.C
open Go.RowKit
set_option linter.unusedVariables false
set_option linter.unusedSimpArgs false
set_option maxRecDepth 20000

def wrongs : Value := .iface 145 (.int .i64 4)

theorem need_ok (w : World) : Calls Tryz.prog 86 #[.bool true] w fun e w' => e = .returned (.tuple #[]) ∧ w = w' := by
  go_enter Tryz.func86, Tryz.ntmps86
  go_wp2
  go_end0
  exact ⟨rfl, rfl⟩

theorem need_no (w : World) : Calls Tryz.prog 86 #[.bool false] w fun e w' => e = .panicked [{ v := wrongs, recovered := false }] ∧ w = w' := by
  go_enter Tryz.func86, Tryz.ntmps86
  go_wp2
  exact ⟨rfl, rfl, rfl⟩

theorem run_to (t : TypeId) (e : TypeId) (ht : Tryz.prog.underlying t = some (.slice (Tryz.prog.elem t))) (hs : ∀ w, (sizeOf (Tryz.prog.elem t)).run Tryz.prog w = .ok 1 w) (a : Option Addr) (n cap k : Nat) (hk : k ≤ cap) (w : World) :
    (Instr.slice t (.slice a n cap) none (some (.int .i64 (k : Int))) none).run Tryz.prog w = .ok (.slice (adv a cap 0) k cap) w := by
  rw [run_slice_h w t a n cap ht .i64 k (by omega) (by omega), hs]
  simp [Result.andThen, sliced, adv]

theorem run_from (t : TypeId) (e : TypeId) (ht : Tryz.prog.underlying t = some (.slice (Tryz.prog.elem t))) (hs : ∀ w, (sizeOf (Tryz.prog.elem t)).run Tryz.prog w = .ok 1 w) (a : Option Addr) (n cap k : Nat) (hk : k ≤ n) (w : World) :
    (Instr.slice t (.slice a n cap) (some (.int .i64 (k : Int))) none none).run Tryz.prog w = .ok (.slice (adv a cap k) (n - k) (cap - k)) w := by
  rw [run_slice_l w t a n cap ht .i64 k (by omega) (by omega), hs]
  simp [Result.andThen, sliced, adv]

theorem size28 (w : World) : (sizeOf (Tryz.prog.elem 50)).run Tryz.prog w = .ok 1 w := by
  obtain ⟨i0, hi0, hz0, hz1, hz2⟩ := info_parts u8_info
  have e : Tryz.prog.elem 50 = 5 := by kernel_rfl
  rw [e]
  simp [sizeOf, typeInfo, hi0, hz1]

theorem under28 : Tryz.prog.underlying 50 = some (.slice (Tryz.prog.elem 50)) := by
  rw [show Tryz.prog.elem 50 = 5 from by kernel_rfl]; exact Tryz.underlying50

theorem take_ok (w : World) (R : Nat) (a : Option Addr) (n cap k : Nat) (hc : w.cell? ⟨R, 0, none⟩ = some (.slice a n cap)) (hf : w.frozen? ⟨R, 0, none⟩ = false) (hk : k ≤ n) (hn : n ≤ cap) (hm : cap ≤ maxLen) :
    Calls Tryz.prog 117 #[.pointer (some ⟨R, 0, none⟩), .int .i64 (k : Int)] w fun e w' => e = .returned (.slice (adv a cap 0) k cap) ∧ w.setCell ⟨R, 0, none⟩ (.slice (adv a cap k) (n - k) (cap - k)) = w' := by
  unfold maxLen at hm
  have h1 := fun w => run_to 50 5 under28 size28 a n cap k (by omega) w
  have h2 := fun w => run_from 50 5 under28 size28 a n cap k (by omega) w
  have hle : decide (k ≤ n) = true := by simpa using hk
  generalize adv a cap 0 = x0 at *
  generalize adv a cap k = x1 at *
  go_enter Tryz.func117, Tryz.ntmps117
  go_wp2_with (go_at_call 86; refine (need_ok _).mono ?_; rintro e w' ⟨rfl, rfl⟩)
  go_ret
  exact ⟨rfl, rfl⟩

theorem take_no (w : World) (R : Nat) (a : Option Addr) (n cap k : Nat) (hc : w.cell? ⟨R, 0, none⟩ = some (.slice a n cap)) (hk : n < k) (hm : n ≤ maxLen) :
    Calls Tryz.prog 117 #[.pointer (some ⟨R, 0, none⟩), .int .i64 (k : Int)] w fun e w' => e = .panicked [{ v := wrongs, recovered := false }] ∧ w = w' := by
  unfold maxLen at hm
  have hle : decide (k ≤ n) = false := by simpa using hk
  go_enter Tryz.func117, Tryz.ntmps117
  go_wp2_with (go_at_call 86; refine (need_no _).mono ?_; rintro e w' ⟨rfl, rfl⟩)
  exact ⟨rfl, rfl, rfl⟩

/-- nothing but block R has changed -/
structure Stp (R : Nat) (w w' : World) : Prop where
  os : w'.os = w.os
  tape : w'.tape = w.tape
  output : w'.output = w.output
  size : w'.heap.size = w.heap.size
  block : ∀ k, k ≠ R → w'.heap[k]? = w.heap[k]?

theorem Stp.refl (R : Nat) (w : World) : Stp R w w := ⟨rfl, rfl, rfl, rfl, fun _ _ => rfl⟩
theorem Stp.trans {R : Nat} {a b c : World} (h : Stp R a b) (k : Stp R b c) : Stp R a c :=
  ⟨k.os.trans h.os, k.tape.trans h.tape, k.output.trans h.output, k.size.trans h.size, fun i hi => (k.block i hi).trans (h.block i hi)⟩
theorem Stp.set (R : Nat) (w : World) (v : Value) : Stp R w (w.setCell ⟨R, 0, none⟩ v) :=
  ⟨rfl, rfl, rfl, by simp [World.setCell], fun k hk => Below.heap_setCell _ _ _ _ hk⟩
theorem Stp.below {R : Nat} {w w' : World} (h : Stp R w w') : Below R w w' :=
  ⟨h.os, h.tape, h.output, Nat.le_of_eq h.size.symm, fun k hk => h.block k (by omega)⟩
theorem Stp.cell {R : Nat} {w w' : World} (h : Stp R w w') {b : Nat} (o : Nat) (hb : b ≠ R) : w'.cell? ⟨b, o, none⟩ = w.cell? ⟨b, o, none⟩ := World.cell?_of_block (h.block b hb)
theorem Stp.frozen {R : Nat} {w w' : World} (h : Stp R w w') {b : Nat} (o : Nat) (hb : b ≠ R) : w'.frozen? ⟨b, o, none⟩ = w.frozen? ⟨b, o, none⟩ := World.frozen?_of_block (h.block b hb)

/-- the reader in block R has the bytes l ahead of it -/
def At (w : World) (R : Nat) (l : List UInt8) : Prop :=
  ∃ a n cap, w.cell? ⟨R, 0, none⟩ = some (.slice a n cap) ∧ w.frozen? ⟨R, 0, none⟩ = false ∧ Row w a n cap (u8s l) ∧ (l = [] ∨ ∀ x, a = some x → x.block < R)

theorem at_drop {w : World} {R : Nat} {a : Option Addr} {n cap : Nat} {l : List UInt8} (hc : w.cell? ⟨R, 0, none⟩ = some (.slice a n cap)) (hf : w.frozen? ⟨R, 0, none⟩ = false) (hr : Row w a n cap (u8s l))
    (ha : l = [] ∨ ∀ x, a = some x → x.block < R) (k : Nat) (hk : k ≤ n) : At (w.setCell ⟨R, 0, none⟩ (.slice (adv a cap k) (n - k) (cap - k))) R (l.drop k) := by
  have hb : l.drop k = [] ∨ ∀ x, adv a cap k = some x → x.block < R := by
    rcases ha with ha | ha
    · exact .inl (by rw [ha]; simp)
    · refine .inr fun x h => ?_
      unfold adv at h
      split at h
      · exact ha x h
      · cases a with
        | none => simp at h
        | some y =>
          simp at h
          subst h
          have := ha y rfl
          unfold Addr.add
          split <;> simpa using this
  refine ⟨adv a cap k, n - k, cap - k, World.cell?_setCell_same _ _ _ hc, ?_, ?_, hb⟩
  · simpa using hf
  · have := row_drop hr k hk
    rw [show (u8s l).drop k = u8s (l.drop k) from (List.map_drop ..).symm] at this
    refine row_set this _ ?_
    rcases hb with hb | hb
    · exact .inl (by rw [hb]; rfl)
    · exact .inr fun b off h => by have : b < R := hb _ h; simp only; omega

theorem next_ok (w : World) (R : Nat) (c : UInt8) (l : List UInt8) (h : At w R (c :: l)) :
    Calls Tryz.prog 95 #[.pointer (some ⟨R, 0, none⟩)] w fun e w' => e = .returned (.int .u8 (c.toNat : Int)) ∧ Stp R w w' ∧ At w' R l := by
  obtain ⟨a, n, cap, hc, hf, hr, ha⟩ := h
  have hn : 1 ≤ n := by have := hr.1; simp [u8s] at this; omega
  have hlim := hr.2
  have h0 := at_drop hc hf hr ha 1 hn
  have h1 := Stp.set R w (.slice (adv a cap 1) (n - 1) (cap - 1))
  obtain ⟨ht1, ht2, ht3, ht4⟩ := row_take hr 1 hn
  have hx : ∃ b off, adv a cap 0 = some ⟨b, off, none⟩ ∧ b ≠ R ∧ w.cell? ⟨b, off, none⟩ = some (.int .u8 (c.toNat : Int)) := by
    rcases ht4 with ht4 | ⟨b, off, hb, hlt, hcell⟩
    · simp [u8s] at ht4
    · refine ⟨b, off, hb, ?_, by simpa [u8s, u8] using hcell 0 (by omega)⟩
      unfold adv at hb
      rcases hr.2.2.2 with h' | ⟨b', off', ha', _, _⟩
      · simp [u8s] at h'
      · rw [ha', if_neg (by omega)] at hb
        simp [Addr.add] at hb
        have : b' < R := by
          rcases ha with ha | ha
          · cases ha
          · exact ha _ ha'
        omega
  obtain ⟨b, off, hb, hbR, hcell⟩ := hx
  have T := take_ok w R a n cap 1 hc hf hn hlim.1 hlim.2.1
  rw [hb] at T
  generalize Value.slice (adv a cap 1) (n - 1) (cap - 1) = v at *
  have H0 := Lib.hid h0
  have H1 := Lib.hid h1
  have HT := Lib.hid T
  have hcell1 : (w.setCell ⟨R, 0, none⟩ v).cell? ⟨b, off, none⟩ = some (.int .u8 (c.toNat : Int)) := by
    rw [H1.out.cell off hbR]; exact hcell
  clear h0 h1 T hb ha hr hc hf ht1 ht2 ht3 ht4 hn hlim
  go_enter Tryz.func95, Tryz.ntmps95
  go_wp2_with (go_at_call 117; refine HT.out.mono ?_; rintro e w' ⟨rfl, rfl⟩)
  go_ret
  exact ⟨rfl, H1.out, H0.out⟩

theorem next_no (w : World) (R : Nat) (h : At w R []) :
    Calls Tryz.prog 95 #[.pointer (some ⟨R, 0, none⟩)] w fun e w' => e = .panicked [{ v := wrongs, recovered := false }] ∧ Below R w w' := by
  obtain ⟨a, n, cap, hc, hf, hr, ha⟩ := h
  have hn : n = 0 := by have := hr.1; simpa [u8s] using this.symm
  subst hn
  have HT := Lib.hid (take_no w R a 0 cap 1 hc (by omega) (by simp [maxLen]))
  clear hc hf hr ha
  go_enter Tryz.func95, Tryz.ntmps95
  go_wp2_with (go_at_call 117; refine HT.out.mono ?_; rintro e w' ⟨rfl, rfl⟩)
  exact ⟨rfl, rfl, Below.refl _ _⟩

theorem counts_ok (w : World) (R : Nat) (c : UInt8) (l : List UInt8) (h : At w R (c :: l)) (hc : M.cT c.toNat ≤ 4) :
    Calls Tryz.prog 96 #[.pointer (some ⟨R, 0, none⟩)] w fun e w' => e = .returned (.tuple #[.int .i64 (M.cN c.toNat : Int), .int .i64 (M.cT c.toNat : Int)]) ∧ Stp R w w' ∧ At w' R l := by
  have HN := Lib.hid (next_ok w R c l h)
  have hlt := c.toNat_lt
  generalize c.toNat = k at *
  clear h
  by_cases h240 : 240 ≤ k
  · have e1 : M.cN k = 16 := by unfold M.cN; rw [if_pos h240]
    have e2 : M.cT k = k - 240 := by unfold M.cT; rw [if_pos h240]
    have e3 : (k : Int) - 240 = ((k - 240 : Nat) : Int) := by omega
    have h3 : (240 : Int) ≤ (k : Int) := by omega
    have h4 : decide ((k : Int) - 240 ≤ 4) = true := by rw [decide_eq_true_eq]; omega
    have E1 := Lib.hid e1
    have E2 := Lib.hid e2
    have E3 := Lib.hid e3
    clear e1 e2 e3 hc
    go_enter Tryz.func96, Tryz.ntmps96
    go_wp2_with (first
      | (go_at_call 95; refine HN.out.mono ?_; rintro e w' ⟨rfl, hs, ha⟩)
      | (go_at_call 86; refine (need_ok _).mono ?_; rintro e w' ⟨rfl, rfl⟩))
    go_ret2
    exact ⟨by rw [E1.out, E2.out, ← E3.out]; rfl, by assumption, by assumption⟩
  · have e1 : M.cN k = k % 16 := by unfold M.cN; rw [if_neg h240]
    have e2 : M.cT k = k / 16 := by unfold M.cT; rw [if_neg h240]
    have h3 : (k : Int) < 240 := by omega
    have h4 : decide ((k : Int) / 16 ≤ 4) = true := by rw [decide_eq_true_eq]; omega
    have E1 := Lib.hid e1
    have E2 := Lib.hid e2
    clear e1 e2 hc
    go_enter Tryz.func96, Tryz.ntmps96
    go_wp2_with (first
      | (go_at_call 95; refine HN.out.mono ?_; rintro e w' ⟨rfl, hs, ha⟩)
      | (go_at_call 86; refine (need_ok _).mono ?_; rintro e w' ⟨rfl, rfl⟩))
    go_ret2
    exact ⟨by rw [E1.out, E2.out]; rfl, by assumption, by assumption⟩

theorem counts_no (w : World) (R : Nat) (l : List UInt8) (h : At w R l) (hc : ∀ c r, l = c :: r → ¬ M.cT c.toNat ≤ 4) :
    Calls Tryz.prog 96 #[.pointer (some ⟨R, 0, none⟩)] w fun e w' => e = .panicked [{ v := wrongs, recovered := false }] ∧ Below R w w' := by
  cases l with
  | nil =>
    have HN := Lib.hid (next_no w R h)
    clear h hc
    go_enter Tryz.func96, Tryz.ntmps96
    go_wp2_with (go_at_call 95; refine HN.out.mono ?_; rintro e w' ⟨rfl, hb⟩)
    exact ⟨rfl, rfl, by assumption⟩
  | cons c r =>
    have hc := hc c r rfl
    have HN := Lib.hid (next_ok w R c r h)
    have hlt := c.toNat_lt
    generalize c.toNat = k at *
    clear h
    by_cases h240 : 240 ≤ k
    · have e2 : M.cT k = k - 240 := by unfold M.cT; rw [if_pos h240]
      have h3 : (240 : Int) ≤ (k : Int) := by omega
      have h4 : decide ((k : Int) - 240 ≤ 4) = false := by rw [decide_eq_false_iff_not]; omega
      clear e2 hc
      go_enter Tryz.func96, Tryz.ntmps96
      go_wp2_with (first
        | (go_at_call 95; refine HN.out.mono ?_; rintro e w' ⟨rfl, hs, ha⟩)
        | (go_at_call 86; refine (need_no _).mono ?_; rintro e w' ⟨rfl, rfl⟩))
      exact ⟨rfl, rfl, Stp.below (by assumption)⟩
    · have e2 : M.cT k = k / 16 := by unfold M.cT; rw [if_neg h240]
      have h3 : (k : Int) < 240 := by omega
      have h4 : decide ((k : Int) / 16 ≤ 4) = false := by rw [decide_eq_false_iff_not]; omega
      clear e2 hc
      go_enter Tryz.func96, Tryz.ntmps96
      go_wp2_with (first
        | (go_at_call 95; refine HN.out.mono ?_; rintro e w' ⟨rfl, hs, ha⟩)
        | (go_at_call 86; refine (need_no _).mono ?_; rintro e w' ⟨rfl, rfl⟩))
      exact ⟨rfl, rfl, Stp.below (by assumption)⟩

/-! a text -/
theorem takes_ok (w : World) (R : Nat) (l : List UInt8) (k : Nat) (h : At w R l) (hk : k ≤ l.length) :
    Calls Tryz.prog 117 #[.pointer (some ⟨R, 0, none⟩), .int .i64 (k : Int)] w fun e w' => ∃ a cap, e = .returned (.slice a k cap) ∧ Row w' a k cap (u8s (l.take k)) ∧ Stp R w w' ∧ At w' R (l.drop k) := by
  obtain ⟨a, n, cap, hc, hf, hr, ha⟩ := h
  have hn : l.length = n := by have := hr.1; simpa [u8s] using this
  subst hn
  refine (take_ok w R a l.length cap k hc hf hk hr.2.1 hr.2.2.1).mono ?_
  rintro e w' ⟨rfl, rfl⟩
  refine ⟨_, _, rfl, ?_, Stp.set _ _ _, at_drop hc hf hr ha k hk⟩
  have ht := row_take hr k hk
  rw [show (u8s l).take k = u8s (l.take k) from (List.map_take ..).symm] at ht
  refine row_set ht _ ?_
  rcases ha with ha | ha
  · exact .inl (by rw [ha]; simp [u8s])
  refine .inr fun b off hb => ?_
  unfold adv at hb
  split at hb
  · have : b < R := ha _ hb
    simp only; omega
  · cases a with
    | none => simp at hb
    | some y =>
      simp at hb
      have := ha y rfl
      have e : (y.add 0).block = y.block := rfl
      rw [hb] at e
      have e' : b = y.block := e
      simp only; omega

theorem takes_no (w : World) (R : Nat) (l : List UInt8) (k : Nat) (h : At w R l) (hk : l.length < k) :
    Calls Tryz.prog 117 #[.pointer (some ⟨R, 0, none⟩), .int .i64 (k : Int)] w fun e w' => e = .panicked [{ v := wrongs, recovered := false }] ∧ Below R w w' := by
  obtain ⟨a, n, cap, hc, hf, hr, ha⟩ := h
  have hn : l.length = n := by have := hr.1; simpa [u8s] using this
  subst hn
  refine (take_no w R a l.length cap k hc hk (Nat.le_trans hr.2.1 hr.2.2.1)).mono ?_
  rintro e w' ⟨rfl, rfl⟩
  exact ⟨rfl, Below.refl _ _⟩

theorem text_ok (w : World) (R : Nat) (l : List UInt8) (t : ByteArray) (r : List UInt8) (h : At w R l) (ht : M.rdT l = some (t, r)) :
    Calls Tryz.prog 98 #[.pointer (some ⟨R, 0, none⟩)] w fun e w' => e = .returned (.string t) ∧ Stp R w w' ∧ At w' R r := by
  cases l with
  | nil => simp [M.rdT] at ht
  | cons c l =>
    simp only [M.rdT] at ht
    split at ht
    · rename_i hc
      simp only [Option.some.injEq, Prod.mk.injEq] at ht
      obtain ⟨rfl, rfl⟩ := ht
      have HN := Lib.hid (next_ok w R c l h)
      have hlt := c.toNat_lt
      generalize c.toNat = k at *
      clear h
      obtain ⟨hc1, hc2⟩ := hc
      have h4 : decide ((k : Int) ≤ 200) = true := by rw [decide_eq_true_eq]; omega
      have Hc2 := Lib.hid hc2
      clear hc1 hc2
      go_enter Tryz.func98, Tryz.ntmps98
      go_wp2_with (first
        | (go_at_call 95; refine HN.out.mono ?_; rintro e w' ⟨rfl, hs, ha⟩; have Hs := Lib.hid hs; have Ha := Lib.hid ha; clear hs ha)
        | (go_at_call 86; refine (need_ok _).mono ?_; rintro e w' ⟨rfl, rfl⟩)
        | (go_at_call 117; refine (takes_ok _ R l k Ha.out Hc2.out).mono ?_; rintro e w2 ⟨a, cap, rfl, hr, hs2, ha2⟩; have hconv := run_string_bytes hr; have Hs2 := Lib.hid (Hs.out.trans hs2); have Ha2 := Lib.hid ha2; clear hs2 ha2 hr))
      go_ret
      exact ⟨rfl, Hs2.out, Ha2.out⟩
    · simp at ht

theorem text_no (w : World) (R : Nat) (l : List UInt8) (h : At w R l) (ht : M.rdT l = none) :
    Calls Tryz.prog 98 #[.pointer (some ⟨R, 0, none⟩)] w fun e w' => e = .panicked [{ v := wrongs, recovered := false }] ∧ Below R w w' := by
  cases l with
  | nil =>
    have HN := Lib.hid (next_no w R h)
    clear h ht
    go_enter Tryz.func98, Tryz.ntmps98
    go_wp2_with (go_at_call 95; refine HN.out.mono ?_; rintro e w' ⟨rfl, hb⟩)
    exact ⟨rfl, rfl, by assumption⟩
  | cons c l =>
    simp only [M.rdT] at ht
    split at ht
    · simp at ht
    · rename_i hc
      have HN := Lib.hid (next_ok w R c l h)
      have hlt := c.toNat_lt
      generalize c.toNat = k at *
      clear h ht
      by_cases h2 : k ≤ 200
      · have h4 : decide ((k : Int) ≤ 200) = true := by rw [decide_eq_true_eq]; omega
        have Hc2 := Lib.hid (show l.length < k by omega)
        clear hc h2
        go_enter Tryz.func98, Tryz.ntmps98
        go_wp2_with (first
          | (go_at_call 95; refine HN.out.mono ?_; rintro e w' ⟨rfl, hs, ha⟩; have Hs := Lib.hid hs; have Ha := Lib.hid ha; clear hs ha)
          | (go_at_call 86; refine (need_ok _).mono ?_; rintro e w' ⟨rfl, rfl⟩)
          | (go_at_call 117; refine (takes_no _ R l k Ha.out Hc2.out).mono ?_; rintro e w2 ⟨rfl, hb⟩; have Hb := Lib.hid (Hs.out.below.trans hb); clear hb))
        exact ⟨rfl, rfl, Hb.out⟩
      · have h4 : decide ((k : Int) ≤ 200) = false := by rw [decide_eq_false_iff_not]; omega
        clear hc h2
        go_enter Tryz.func98, Tryz.ntmps98
        go_wp2_with (first
          | (go_at_call 95; refine HN.out.mono ?_; rintro e w' ⟨rfl, hs, ha⟩; have Hs := Lib.hid hs; have Ha := Lib.hid ha; clear hs ha)
          | (go_at_call 86; refine (need_no _).mono ?_; rintro e w' ⟨rfl, rfl⟩))
        exact ⟨rfl, rfl, Hs.out.below⟩
end Go.Proofs.YtpoolpckabpnfaaGreat.C
