/-
  The statements' own first calls are answered as the document says. CONDITIONS: none.
-/
import Derived.Test.YtdakfhoadfbfiaaDecs
import Derived.Test.YtdakfhoadfbfiaaEncw
import Derived.Test.YtdakfhoadfbfiaaSame
namespace Go.Proofs.Ytdakfhoadfbfiaa
open Go.RowKit
set_option linter.unusedVariables false
set_option linter.unusedSimpArgs false
set_option maxRecDepth 20000

/-- a record that a call made itself -/
structure RecOwn (w : World) (B : Nat) (r : M.Rc) (aN : Option Addr) (nN cN : Nat) (aT : Option Addr) (nT cT : Nat) : Prop where
  nums : Own 2 w B aN nN cN (i64s r.nums)
  texts : Own 9 w B aT nT cT (strs r.texts)

theorem RecOwn.at {w : World} {B : Nat} {r : M.Rc} {aN : Option Addr} {nN cN : Nat} {aT : Option Addr} {nT cT : Nat} (h : RecOwn w B r aN nN cN aT nT cT) : RecAt w r aN nN cN aT nT cT := ⟨(own_row h.nums).1, (own_row h.texts).1⟩
theorem RecOwn.below {w w' : World} {B C : Nat} {r : M.Rc} {aN : Option Addr} {nN cN : Nat} {aT : Option Addr} {nT cT : Nat} (h : RecOwn w B r aN nN cN aT nT cT) (hb : Below C w w') (hC : w.heap.size ≤ C) : RecOwn w' B r aN nN cN aT nT cT :=
  ⟨own_below h.nums hb hC, own_below h.texts hb hC⟩
theorem RecOwn.set {w : World} {B : Nat} {r : M.Rc} {aN : Option Addr} {nN cN : Nat} {aT : Option Addr} {nT cT : Nat} (h : RecOwn w B r aN nN cN aT nT cT) {p : Addr} (v : Value) (hp : p.block < B) : RecOwn (w.setCell p v) B r aN nN cN aT nT cT :=
  ⟨own_set h.nums v hp, own_set h.texts v hp⟩

theorem decode_ok (w : World) (a : Option Addr) (n cap : Nat) (l : List UInt8) (r : M.Rc) (h : Row w a n cap (u8s l)) (hd : M.dec l = some r) :
    Calls Try.prog 22 #[.slice a n cap] w fun e w' => ∃ aN nN cN aT nT cT, e = .returned (.tuple #[.agg #[.int .i64 r.kind, .slice aN nN cN, .slice aT nT cT], .int .i64 0]) ∧ RecOwn w' w.heap.size r aN nN cN aT nT cT ∧ Below w.heap.size w w' := by
  refine (decode_any w a n cap l h).mono ?_
  rintro e w' ⟨hb, ⟨r', v, h1, ⟨aN, nN, cN, aT, nT, cT, rfl, h2, h3⟩, rfl⟩ | ⟨h1, _⟩⟩
  · rw [hd] at h1
    injection h1 with h1
    subst h1
    exact ⟨aN, nN, cN, aT, nT, cT, rfl, ⟨h2, h3⟩, hb⟩
  · rw [hd] at h1; cases h1

theorem decode_no (w : World) (a : Option Addr) (n cap : Nat) (l : List UInt8) (h : Row w a n cap (u8s l)) (hd : M.dec l = none) :
    Calls Try.prog 22 #[.slice a n cap] w fun e w' => e = .returned (.tuple #[.agg #[.int .i64 0, .slice none 0 0, .slice none 0 0], .int .i64 4]) ∧ Below w.heap.size w w' := by
  refine (decode_any w a n cap l h).mono ?_
  rintro e w' ⟨hb, ⟨r', v, h1, _, _⟩ | ⟨h1, rfl⟩⟩
  · rw [hd] at h1; cases h1
  · exact ⟨rfl, hb⟩

/-! the first calls -/
def r1 : M.Rc := ⟨3, [0, -1, 300], []⟩
def ab : ByteArray := str [97, 98]
def r2 : M.Rc := ⟨9, [], [ab]⟩
theorem r1_may : M.May r1 := ⟨by decide, by decide, by decide, by decide, by intro t ht; cases ht⟩
theorem r1_fits : M.Fits r1 := by intro n hn; simp [r1] at hn; unfold M.fits; omega
theorem r1_enc : M.enc r1 = [3, 3, 0, 1, 216, 4] := by decide +kernel
theorem r2_may : M.May r2 := ⟨by decide, by decide, by decide, by decide, by intro t ht; simp [r2] at ht; subst ht; decide⟩
theorem r2_fits : M.Fits r2 := by intro n hn; cases hn
theorem r2_dec : M.dec [9, 16, 2, 97, 98] = some r2 := by rfl
theorem r2_enc : (M.enc r2).length = 5 := by decide +kernel
theorem no_dec : M.dec [3, 1, 128, 0] = none := by rfl
theorem n300 : (M.num 300).length = 2 := by decide +kernel
theorem fits300 : M.fits 300 := by unfold M.fits; omega

theorem row_nine (w : World) : Row (w.alloc (.cells #[.int .u8 9, .int .u8 16, .int .u8 2, .int .u8 97, .int .u8 98] 5)) (some ⟨w.heap.size, 0, none⟩) 5 5 (u8s [9, 16, 2, 97, 98]) := by
  have e : u8s [9, 16, 2, 97, 98] = [.int .u8 9, .int .u8 16, .int .u8 2, .int .u8 97, .int .u8 98] := rfl
  rw [e]
  exact row_lit w 5 [.int .u8 9, .int .u8 16, .int .u8 2, .int .u8 97, .int .u8 98] (by simp)
theorem row_three (w : World) (N : Nat) (hN : w.heap.size = N) : Row (w.alloc (.cells #[.int .u8 3, .int .u8 1, .int .u8 128, .int .u8 0] 5)) (some ⟨N, 0, none⟩) 4 4 (u8s [3, 1, 128, 0]) := by
  subst hN
  have e : u8s [3, 1, 128, 0] = [.int .u8 3, .int .u8 1, .int .u8 128, .int .u8 0] := rfl
  rw [e]
  exact row_lit w 5 [.int .u8 3, .int .u8 1, .int .u8 128, .int .u8 0] (by simp)
theorem row_two (w : World) : Row (w.alloc (.cells #[.int .u8 0, .int .u8 1] 5)) (some ⟨w.heap.size, 0, none⟩) 2 2 (u8s [0, 1]) := by
  have e : u8s [0, 1] = [.int .u8 0, .int .u8 1] := rfl
  rw [e]
  exact row_lit w 5 [.int .u8 0, .int .u8 1] (by simp)

set_option maxHeartbeats 400000 in
theorem awake_any (w : World) :
    Calls Try.prog 12 #[] w fun e w' => e = .returned (.bool true) ∧ Below w.heap.size w w' := by
  have HB0 := Lib.hid ((Below.refl w.heap.size w).alloc (Nat.le_refl _) (.cells #[.int .i64 0, .int .i64 (-1), .int .i64 300] 2))
  have HR1 : Hid (RecAt (w.alloc (.cells #[.int .i64 0, .int .i64 (-1), .int .i64 300] 2)) r1 (some ⟨w.heap.size, 0, none⟩) 3 3 none 0 0) :=
    ⟨row_lit w 2 (i64s [0, -1, 300]) (by decide), ⟨rfl, by omega, by simp [maxLen], .inl rfl⟩⟩
  have HE := Lib.hid (encode_yes _ r1 _ 3 3 none 0 0 HR1.out r1_may r1_fits)
  go_enter Try.func12, Try.ntmps12
  go_wp2_with (first
    | (go_at_call 14; refine HE.out.mono ?_; rintro e w1 ⟨a1, cap1, rfl, ho1, hb1⟩; rw [r1_enc] at ho1; rw [r1_enc]; have Ho1 := Lib.hid ho1; have Hb1 := Lib.hid (HB0.out.trans (hb1.mono (by simp))); clear ho1 hb1))
  refine (decode_ok _ (some ⟨w1.heap.size, 0, none⟩) 5 5 [9, 16, 2, 97, 98] r2 (row_nine w1) r2_dec).mono ?_
  rintro e w2 ⟨aN, nN, cN, aT, nT, cT, rfl, ho2, hb2⟩
  obtain rfl : nN = 0 := ho2.at.lenN
  obtain rfl : nT = 1 := ho2.at.lenT
  obtain ⟨b, off, t, rfl, hbT, ht, hcT⟩ := row_str ho2.at.texts 0 (by omega)
  obtain rfl : ab = t := by injection ht
  have Hb2 : Hid (Below w1.heap.size w1 w2) := ((Below.refl _ w1).alloc (Nat.le_refl _) _).trans (hb2.mono (by simp))
  have Ho2 := Lib.hid ho2
  have HcT := Lib.hid hcT
  have HbT := Lib.hid hbT
  clear ho2 hb2 hcT hbT ht
  go_wp2_with fail
  refine (decode_no _ _ 4 4 [3, 1, 128, 0] (row_three _ _ (by simp)) no_dec).mono ?_
  rintro e w3 ⟨rfl, hb3⟩
  have Hb3 := Lib.hid hb3
  clear hb3
  have HB : Hid (Below (w2.heap.size + 1) (w2.alloc (.cells #[.int .i64 r2.kind, .slice aN 0 cN, .slice (some ⟨b, off, none⟩) 1 cT] 25)) (w3.alloc (.cells #[.int .i64 0, .slice none 0 0, .slice none 0 0] 25))) := by
    have h3 := Hb3.out.size
    simp at h3
    exact (((Below.refl _ _).alloc (by simp) _).trans (Hb3.out.mono (by simp))).alloc (by omega) _
  have HB' : Hid (Below w.heap.size w (w3.alloc (.cells #[.int .i64 0, .slice none 0 0, .slice none 0 0] 25))) :=
    ((Hb1.out.trans (Hb2.out.mono Hb1.out.size)).alloc (Nat.le_trans Hb1.out.size Hb2.out.size) _).trans (HB.out.mono (by have := Hb1.out.size; have := Hb2.out.size; omega))
  have Hrow := Lib.hid (row_below (row_below (own_row Ho1.out).1 Hb2.out (Nat.le_refl _)) (((Below.refl w2.heap.size w2).alloc (Nat.le_refl _) _).trans (HB.out.mono (by omega))) (Nat.le_refl _))
  have Hrec := Lib.hid (Ho2.out.at.below (((Below.refl w2.heap.size w2).alloc (Nat.le_refl _) (.cells #[.int .i64 r2.kind, .slice aN 0 cN, .slice (some ⟨b, off, none⟩) 1 cT] 25)).trans (HB.out.mono (by omega))) (Nat.le_refl _))
  have hconv : (convert 28 9 (.slice a1 6 cap1)).run Try.prog (w3.alloc (.cells #[.int .i64 0, .slice none 0 0, .slice none 0 0] 25)) = .ok (.string (str [3, 3, 0, 1, 216, 4])) (w3.alloc (.cells #[.int .i64 0, .slice none 0 0, .slice none 0 0] 25)) := run_string_bytes Hrow.out
  have hq : (str [3, 3, 0, 1, 216, 4]).toList = [3, 3, 0, 1, 216, 4] := by simp [str]
  have hab : ab.toList = [97, 98] := by simp [ab, str]
  have hk9 : r2.kind = 9 := rfl
  obtain ⟨c1, c2, c3⟩ : (w3.alloc (.cells #[.int .i64 0, .slice none 0 0, .slice none 0 0] 25)).cell? ⟨w2.heap.size, 0, none⟩ = some (.int .i64 r2.kind) ∧ (w3.alloc (.cells #[.int .i64 0, .slice none 0 0, .slice none 0 0] 25)).cell? ⟨w2.heap.size, 1, none⟩ = some (.slice aN 0 cN) ∧
      (w3.alloc (.cells #[.int .i64 0, .slice none 0 0, .slice none 0 0] 25)).cell? ⟨w2.heap.size, 2, none⟩ = some (.slice (some ⟨b, off, none⟩) 1 cT) := by
    refine ⟨?_, ?_, ?_⟩ <;> (rw [HB.out.cell (by simp)]; rw [World.cell?_alloc_mark]; rfl)
  have c4 : (w3.alloc (.cells #[.int .i64 0, .slice none 0 0, .slice none 0 0] 25)).cell? ⟨b, off, none⟩ = some (.string ab) := by
    have := HcT.out
    rw [Nat.add_zero] at this
    rw [HB.out.cell (p := ⟨b, off, none⟩) (by have := HbT.out; simp only; omega)]
    exact (((Below.refl w2.heap.size w2).alloc (Nat.le_refl _) _).cell (p := ⟨b, off, none⟩) HbT.out).trans this
  have hsz4 : w2.heap.size + 1 ≤ (w3.alloc (.cells #[.int .i64 0, .slice none 0 0, .slice none 0 0] 25)).heap.size := by have := HB.out.size; simp at *; omega
  have Hsz4 := Lib.hid hsz4
  clear hsz4
  go_wp2_with fail
  refine (size_yes _ r2 aN 0 cN _ 1 cT Hrec.out r2_may r2_fits).mono ?_
  rintro e w5 ⟨rfl, hb5⟩
  rw [r2_enc]
  obtain ⟨d1, d2, d3⟩ : w5.cell? ⟨w2.heap.size, 0, none⟩ = some (.int .i64 r2.kind) ∧ w5.cell? ⟨w2.heap.size, 1, none⟩ = some (.slice aN 0 cN) ∧ w5.cell? ⟨w2.heap.size, 2, none⟩ = some (.slice (some ⟨b, off, none⟩) 1 cT) := by
    refine ⟨?_, ?_, ?_⟩ <;> rw [hb5.cell (by have := Hsz4.out; simp only; omega)] <;> assumption
  have Hb5 := Lib.hid hb5
  have Hrec5 := Lib.hid (Hrec.out.below hb5 (Nat.le_refl _))
  clear hb5
  go_wp2_with fail
  refine (may_yes _ r2 aN 0 cN _ 1 cT Hrec5.out r2_may).mono ?_
  rintro e w6 ⟨rfl, hb6⟩
  have Hb6 := Lib.hid hb6
  clear hb6
  go_wp2_with fail
  refine (number2_any 300 _ fits300).mono ?_
  rintro e w7 ⟨a7, cap7, rfl, ho7, hb7⟩
  rw [n300]
  have Hb7 := Lib.hid hb7
  clear hb7 ho7
  go_wp2_with fail
  go_ret
  exact ⟨rfl, ((HB'.out.trans (Hb5.out.mono HB'.out.size)).trans (Hb6.out.mono (Nat.le_trans HB'.out.size Hb5.out.size))).trans (Hb7.out.mono (Nat.le_trans HB'.out.size (Nat.le_trans Hb5.out.size Hb6.out.size)))⟩
end Go.Proofs.Ytdakfhoadfbfiaa
