/-
  The statements' own first calls are answered as the document says. CONDITIONS: the library's tables and errors lie as its text lays them.
-/
import Derived.Test.YtaldkdiijflmdaaDoorNumb
import Derived.KernelRfl
namespace Go.Proofs.YtaldkdiijflmdaaDoor
open Go.RowKit
set_option linter.unusedVariables false
set_option linter.unusedSimpArgs false
set_option maxRecDepth 20000

/-- what the library's text has laid -/
structure Lain (w : World) : Prop where
  tabs : Lib.Utf8Tabs 0 1 w
  errs : Errs w

theorem Lain.below {w w' : World} (h : Lain w) {N : Nat} (hb : Below N w w') (hN : w.heap.size ≤ N) : Lain w' :=
  ⟨tabs_below h.tabs hb (Nat.le_trans (tabs_size h.tabs) hN), errs_below h.errs hb (Nat.le_trans (errs_size h.errs) hN)⟩

theorem words_ok (s : ByteArray) (w : World) (ws : List (List UInt8)) (h : M.words s.data.toList = .ok ws) :
    Calls Tryd.prog 13 #[.string s] w fun e w' => ∃ a c, e = .returned (.tuple #[.slice a ws.length c, .int .i64 0]) ∧ Own 9 w' w.heap.size a ws.length c (strs (ws.map str)) ∧ Below w.heap.size w w' := by
  refine (words_any s w).mono ?_
  intro e w' hp
  unfold WPost at hp
  rw [h] at hp
  obtain ⟨a, n, c, rfl, ho, hb⟩ := hp
  obtain rfl : n = ws.length := by have := ho.2.1; rw [strs_length, List.length_map] at this; exact this.symm
  exact ⟨a, c, rfl, ho, hb⟩

theorem words_no (s : ByteArray) (w : World) (k : Int) (h : M.words s.data.toList = .error k) :
    Calls Tryd.prog 13 #[.string s] w fun e w' => e = .returned (.tuple #[.slice none 0 0, .int .i64 k]) ∧ Below w.heap.size w w' := by
  refine (words_any s w).mono ?_
  intro e w' hp
  unfold WPost at hp
  rw [h] at hp
  exact hp

theorem number_yes (s : ByteArray) (w : World) (n : Int) (hE : Errs w) (hs : s.size ≤ 281474976710656) (h : number s.data.toList = some n) :
    Calls Tryd.prog 16 #[.string s] w fun e w' => e = .returned (.tuple #[.int .i64 n, .int .i64 0]) ∧ Below w.heap.size w w' := by
  refine (number_any s w hE hs).mono ?_
  intro e w' ⟨hb, hp⟩
  rw [h] at hp
  exact ⟨hp, hb⟩

theorem number_no (s : ByteArray) (w : World) (hE : Errs w) (hs : s.size ≤ 281474976710656) (h : number s.data.toList = none) :
    Calls Tryd.prog 16 #[.string s] w fun e w' => e = .returned (.tuple #[.int .i64 0, .int .i64 4]) ∧ Below w.heap.size w w' := by
  refine (number_any s w hE hs).mono ?_
  intro e w' ⟨hb, hp⟩
  rw [h] at hp
  exact ⟨hp, hb⟩

theorem quote_lit (s q : ByteArray) (w : World) (hT : Lib.Utf8Tabs 0 1 w) (hs : s.size ≤ 20000) (h : str (M.quote s.data.toList) = q) :
    Calls Tryd.prog 12 #[.string s] w fun e w' => e = .returned (.string q) ∧ Below w.heap.size w w' := by
  refine (quote_any s w hT hs).mono ?_
  intro e w' ⟨he, hb⟩
  rw [h] at he
  exact ⟨he, hb⟩

theorem plain_lit (s : ByteArray) (w : World) (b : Bool) (h : M.plainW s.data.toList = b) :
    Calls Tryd.prog 15 #[.string s] w fun e w' => e = .returned (.bool b) ∧ Below w.heap.size w w' := h ▸ plainW_any s w

def L1 : ByteArray := ⟨#[119, 114, 105, 116, 101, 32, 51, 32, 34, 97, 32, 98, 34, 32, 35, 32, 110, 111]⟩
theorem w1_ok : M.words L1.data.toList = .ok [[119, 114, 105, 116, 101], [51], [97, 32, 98]] := by kernel_rfl
def L2 : ByteArray := ⟨#[97, 34, 98, 34]⟩
theorem w2_no : M.words L2.data.toList = .error 4 := by kernel_rfl
theorem n1_ok : number (⟨#[45, 49, 50]⟩ : ByteArray).data.toList = some (-12) := by kernel_rfl
theorem n2_no : number (⟨#[48, 49, 50]⟩ : ByteArray).data.toList = none := by kernel_rfl
theorem q1_ok : str (M.quote (⟨#[97, 32, 98]⟩ : ByteArray).data.toList) = ⟨#[34, 97, 32, 98, 34]⟩ := by kernel_rfl
theorem q2_ok : str (M.quote (⟨#[120]⟩ : ByteArray).data.toList) = ⟨#[120]⟩ := by kernel_rfl
theorem p1_ok : M.plainW (⟨#[120]⟩ : ByteArray).data.toList = true := by kernel_rfl
theorem p2_no : M.plainW (⟨#[]⟩ : ByteArray).data.toList = false := by kernel_rfl

theorem awake_any (w : World) (hL : Lain w) : Calls Tryd.prog 11 #[] w fun e w' => e = .returned (.bool true) ∧ Below w.heap.size w w' := by
  have HL := Lib.hid hL
  clear hL
  go_enter Tryd.func11, Tryd.ntmps11
  go_wp2_with fail
  refine (words_ok L1 _ _ w1_ok).mono ?_
  rintro e w1 ⟨a, c, rfl, ho, hb⟩
  have HB1 := Lib.hid hb
  have HO := Lib.hid ho
  obtain ⟨b, off, t, rfl, hbT, ht, hcT⟩ := row_str (own_row ho).1 0 (by decide)
  obtain ⟨b', off', t', he', hbT', ht', hcT'⟩ := row_str (own_row ho).1 2 (by decide)
  injection he' with he'
  injection he' with e1 e2 e3
  subst e1 e2
  obtain rfl : str [119, 114, 105, 116, 101] = t := by injection ht
  obtain rfl : str [97, 32, 98] = t' := by injection ht'
  have HC := Lib.hid hcT
  have HC' := Lib.hid hcT'
  have Hb := Lib.hid hbT
  clear ho hb hbT hbT' ht ht' hcT hcT'
  go_wp2_with fail
  refine (words_no L2 _ 4 w2_no).mono ?_
  rintro e w2 ⟨rfl, hb⟩
  have HB2 := Lib.hid hb
  clear hb
  go_wp2_with fail
  refine (number_yes _ w2 (-12) ((HL.out.below HB1.out (Nat.le_refl _)).below HB2.out (Nat.le_refl _)).errs (by decide) n1_ok).mono ?_
  rintro e w3 ⟨rfl, hb⟩
  have HB3 := Lib.hid hb
  clear hb
  go_wp2_with fail
  refine (number_no _ w3 (((HL.out.below HB1.out (Nat.le_refl _)).below HB2.out (Nat.le_refl _)).below HB3.out (Nat.le_refl _)).errs (by decide) n2_no).mono ?_
  rintro e w4 ⟨rfl, hb⟩
  have HB4 := Lib.hid hb
  clear hb
  have HL4 := Lib.hid ((((HL.out.below HB1.out (Nat.le_refl _)).below HB2.out (Nat.le_refl _)).below HB3.out (Nat.le_refl _)).below HB4.out (Nat.le_refl _))
  have HB14 : Hid (Below w1.heap.size w1 w4) := (HB2.out.trans (HB3.out.mono HB2.out.size)).trans (HB4.out.mono (Nat.le_trans HB2.out.size HB3.out.size))
  have HB04 : Hid (Below w.heap.size w w4) := HB1.out.trans (HB14.out.mono HB1.out.size)
  have f0 : w4.cell? ⟨b, off, none⟩ = some (.string (str [119, 114, 105, 116, 101])) := by
    have := HC.out
    rw [Nat.add_zero] at this
    rw [HB14.out.cell (p := ⟨b, off, none⟩) Hb.out]
    exact this
  have f2 : w4.cell? ⟨b, off + 2, none⟩ = some (.string (str [97, 32, 98])) := by
    rw [HB14.out.cell (p := ⟨b, off + 2, none⟩) Hb.out]
    exact HC'.out
  have t1 : (str [119, 114, 105, 116, 101]).toList = [119, 114, 105, 116, 101] := by simp [str]
  have t2 : (str [97, 32, 98]).toList = [97, 32, 98] := by simp [str]
  go_wp2_with fail
  refine (quote_lit _ _ w4 HL4.out.tabs (by decide) q1_ok).mono ?_
  rintro e w5 ⟨rfl, hb⟩
  have HB5 := Lib.hid hb
  clear hb
  have HL5 := Lib.hid (HL4.out.below HB5.out (Nat.le_refl _))
  go_wp2_with fail
  refine (quote_lit _ _ w5 HL5.out.tabs (by decide) q2_ok).mono ?_
  rintro e w6 ⟨rfl, hb⟩
  have HB6 := Lib.hid hb
  clear hb
  go_wp2_with fail
  refine (plain_lit _ w6 true p1_ok).mono ?_
  rintro e w7 ⟨rfl, hb⟩
  have HB7 := Lib.hid hb
  clear hb
  go_wp2_with fail
  refine (plain_lit _ w7 false p2_no).mono ?_
  rintro e w8 ⟨rfl, hb⟩
  have HB8 := Lib.hid hb
  clear hb
  go_wp2_with fail
  go_ret
  have s4 := HB04.out.size
  have s5 := HB5.out.size
  have s6 := HB6.out.size
  have s7 := HB7.out.size
  exact ⟨rfl, (((HB04.out.trans (HB5.out.mono s4)).trans (HB6.out.mono (by omega))).trans (HB7.out.mono (by omega))).trans (HB8.out.mono (by omega))⟩
end Go.Proofs.YtaldkdiijflmdaaDoor
