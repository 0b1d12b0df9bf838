/-
  A row of places as a value; what its small methods tell.
-/
import Derived.Test.YtcofahpeinkhfaaGreatProg
import Derived.Test.YtcofahpeinkhfaaGreatBMath
import Derived.WalkKit
import Derived.Lib.Hide
import Derived.Below
import Derived.Maps.AppendAt
import Derived.OwnWalk
import Derived.RegionTactic
import Derived.ChangeAlike
import Derived.Laws.BitsAllLaws
import Derived.Deep.QuietTactic
import Derived.BigQuiet
namespace Go.Proofs.YtcofahpeinkhfaaGreat.B
open Go.RowKit
set_option linter.unusedVariables false
set_option linter.unusedSimpArgs false
set_option maxRecDepth 20000

/-- a row of n places, whose marks are the bits of m -/
def V (n m : Nat) : Value := .agg #[.int .i64 (n : Int), .int .u64 (m : Int)]

theorem size_any (n : Nat) (w : World) (hn : n ≤ 255) : Calls Tryz.prog 56 #[.int .i64 (n : Int)] w fun e w' => e = .returned (.int .i64 (M.size n : Int)) ∧ w = w' := by
  have h1 : (n : Int) ≤ 255 := by omega
  go_enter Tryz.func56, Tryz.ntmps56
  go_wp2
  go_ret
  exact ⟨by unfold M.size; simp, rfl⟩

theorem len_any (n m : Nat) (w : World) : Calls Tryz.prog 31 #[V n m] w fun e w' => e = .returned (.int .i64 (n : Int)) ∧ Below w.heap.size w w' := by
  unfold V
  go_enter Tryz.func31, Tryz.ntmps31
  go_wp2
  go_ret
  exact ⟨rfl, (Below.refl _ _).alloc (Nat.le_refl _) _⟩

theorem reaches_any (n m : Nat) (i : Int) (w : World) : Calls Tryz.prog 60 #[V n m, .int .i64 i] w fun e w' => e = .returned (.bool (decide (0 ≤ i ∧ i < (n : Int)))) ∧ Below w.heap.size w w' := by
  unfold V
  by_cases h1 : 0 ≤ i
  · by_cases h2 : i < (n : Int)
    · rw [decide_eq_true (show 0 ≤ i ∧ i < (n : Int) from ⟨h1, h2⟩)]
      go_enter Tryz.func60, Tryz.ntmps60
      go_wp2
      go_ret
      exact ⟨rfl, (Below.refl _ _).alloc (Nat.le_refl _) _⟩
    · rw [decide_eq_false (show ¬ (0 ≤ i ∧ i < (n : Int)) from fun h => h2 h.2)]
      go_enter Tryz.func60, Tryz.ntmps60
      go_wp2
      go_ret
      exact ⟨rfl, (Below.refl _ _).alloc (Nat.le_refl _) _⟩
  · rw [decide_eq_false (show ¬ (0 ≤ i ∧ i < (n : Int)) from fun h => h1 h.1)]
    go_enter Tryz.func60, Tryz.ntmps60
    go_wp2
    go_ret
    exact ⟨rfl, (Below.refl _ _).alloc (Nat.le_refl _) _⟩

theorem bel1 (w : World) (o : Obj) : Below w.heap.size w (w.alloc o) := (Below.refl _ _).alloc (Nat.le_refl _) _

theorem new_any (n : Int) (w : World) : Calls Tryz.prog 43 #[.int .i64 n] w fun e w' => e = .returned (V (M.len n) 0) ∧ Below w.heap.size w w' := by
  unfold V M.len
  by_cases h1 : 0 ≤ n
  · by_cases h2 : n ≤ 64
    · rw [if_pos ⟨h1, h2⟩]
      obtain ⟨k, rfl⟩ := Int.eq_ofNat_of_zero_le h1
      go_enter Tryz.func43, Tryz.ntmps43
      go_wp2
      exact bodyPost_ret (v := .agg #[.int .i64 (((k : Int).toNat : Nat) : Int), .int .u64 ((0 : Nat) : Int)]) (by simp [results, Tryz.results43, go_sem]) rfl ⟨rfl, bel1 w _⟩
    · rw [if_neg (show ¬ (0 ≤ n ∧ n ≤ 64) from fun h => h2 h.2)]
      go_enter Tryz.func43, Tryz.ntmps43
      go_wp2
      exact bodyPost_ret (v := .agg #[.int .i64 ((0 : Nat) : Int), .int .u64 ((0 : Nat) : Int)]) (by simp [results, Tryz.results43, go_sem]) rfl ⟨rfl, bel1 w _⟩
  · rw [if_neg (show ¬ (0 ≤ n ∧ n ≤ 64) from fun h => h1 h.1)]
    go_enter Tryz.func43, Tryz.ntmps43
    go_wp2
    exact bodyPost_ret (v := .agg #[.int .i64 ((0 : Nat) : Int), .int .u64 ((0 : Nat) : Int)]) (by simp [results, Tryz.results43, go_sem]) rfl ⟨rfl, bel1 w _⟩

/-- is a place marked? -/
def has (n m : Nat) (i : Int) : Bool := decide (0 ≤ i ∧ i < (n : Int)) && m.testBit i.toNat
theorem bcell {W w1 : World} (hb : Below W.heap.size W w1) : (∀ b o, b < W.heap.size → w1.cell? ⟨b, o, none⟩ = W.cell? ⟨b, o, none⟩) ∧ (∀ b o, b < W.heap.size → w1.frozen? ⟨b, o, none⟩ = W.frozen? ⟨b, o, none⟩) :=
  ⟨fun b o h => hb.cell (p := ⟨b, o, none⟩) h, fun b o h => hb.frozen (p := ⟨b, o, none⟩) h⟩

theorem has_val {m : Nat} (hm : m < 2 ^ 64) (k : Nat) : (bits .and .u64 ((m : Int) / 2 ^ k) 1 == 1) = m.testBit k := by
  have e : (m : Int) / 2 ^ k = ((m / 2 ^ k : Nat) : Int) := by simp
  have hd : m / 2 ^ k ≤ m := Nat.div_le_self _ _
  have h1 : bits .and .u64 ((m / 2 ^ k : Nat) : Int) ((1 : Nat) : Int) = ((m / 2 ^ k &&& 1 : Nat) : Int) := u64_and_nat _ _ (by omega) (by omega)
  rw [e]
  have h2 : bits .and .u64 ((m / 2 ^ k : Nat) : Int) 1 = ((m / 2 ^ k % 2 : Nat) : Int) := by rw [← nat_mask1]; exact h1
  rw [h2, M.bit_is]
  rcases Nat.mod_two_eq_zero_or_one (m / 2 ^ k) with h | h <;> rw [h] <;> simp

theorem below_up {B : Nat} {w w1 w2 : World} (h : Below B w w1) (hb : Below w1.heap.size w1 w2) (hB : B ≤ w1.heap.size) : Below B w w2 := h.trans (hb.mono hB)
theorem bel2 {w w1 : World} {o : Obj} (h : Below (w.alloc o).heap.size (w.alloc o) w1) : Below w.heap.size w w1 := (bel1 w o).trans (h.mono (by simp))

theorem has_any (n m : Nat) (i : Int) (w : World) (hn : n ≤ 64) (hm : m < 2 ^ n) : Calls Tryz.prog 52 #[V n m, .int .i64 i] w fun e w' => e = .returned (.bool (has n m i)) ∧ Below w.heap.size w w' := by
  have HM := Lib.hid (M.lt64 hn hm)
  have HR := fun w => Lib.hid (reaches_any n m i w)
  unfold has
  by_cases h1 : 0 ≤ i ∧ i < (n : Int)
  · rw [decide_eq_true h1] at HR ⊢
    obtain ⟨h2, h3⟩ := h1
    obtain ⟨k, rfl⟩ := Int.eq_ofNat_of_zero_le h2
    unfold V at HR ⊢
    have HV := Lib.hid (has_val HM.out k)
    clear hm
    go_enter Tryz.func52, Tryz.ntmps52
    go_wp2_with (go_at_call 60; ((with_reducible refine (HR _).out.mono ?_); rintro e w1 ⟨rfl, hb⟩); obtain ⟨hc, hf⟩ := bcell hb; have Hb := Lib.hid hb; clear hb)
    go_ret
    exact ⟨by rw [HV.out]; simp, bel2 Hb.out⟩
  · rw [decide_eq_false h1] at HR ⊢
    unfold V at HR ⊢
    clear hm h1
    go_enter Tryz.func52, Tryz.ntmps52
    go_wp2_with (go_at_call 60; ((with_reducible refine (HR _).out.mono ?_); rintro e w1 ⟨rfl, hb⟩); obtain ⟨hc, hf⟩ := bcell hb; have Hb := Lib.hid hb; clear hb)
    go_ret
    exact ⟨rfl, bel2 Hb.out⟩

/-! one place turned -/
def putN (n : Nat) (i : Int) : Nat := if 0 ≤ i ∧ i < (n : Int) then n else 0
def putM (n m : Nat) (i : Int) : Nat := if 0 ≤ i ∧ i < (n : Int) then M.put m i.toNat else 0
def delM (n m : Nat) (i : Int) : Nat := if 0 ≤ i ∧ i < (n : Int) then M.del m i.toNat else 0
def putE (n : Nat) (i : Int) : Int := if 0 ≤ i ∧ i < (n : Int) then 0 else 2
theorem or_val {m k : Nat} (hm : m < 2 ^ 64) (hk : k < 64) : bits .or .u64 (m : Int) (2 ^ k) = ((M.put m k : Nat) : Int) := by
  have hp : 2 ^ k < 2 ^ 64 := Nat.pow_lt_pow_right (by omega) hk
  have := u64_or_nat m (2 ^ k) (by omega) (by omega)
  unfold M.put
  rw [← this]
  simp
theorem wrap_pow {k : Nat} (hk : k < 64) : IntKind.u64.wrap ((2 : Int) ^ k) = 2 ^ k := by
  have hp : 2 ^ k < 2 ^ 64 := Nat.pow_lt_pow_right (by omega) hk
  have e : (2 : Int) ^ k = ((2 ^ k : Nat) : Int) := by simp
  rw [e, IntKind.wrap_u64]
  generalize 2 ^ k = x at *
  omega

/-- a row that lies in block b -/
structure At (w : World) (b n m : Nat) : Prop where
  c0 : w.cell? ⟨b, 0, none⟩ = some (.int .i64 (n : Int))
  c1 : w.cell? ⟨b, 1, none⟩ = some (.int .u64 (m : Int))
  fz : ∀ o, w.frozen? ⟨b, o, none⟩ = false
theorem At.lt {w : World} {b n m : Nat} (h : At w b n m) : b < w.heap.size := World.block_lt_of_cell? w _ h.c0
theorem at_new (w : World) (n m : Nat) : At (w.alloc (.cells #[.int .i64 (n : Int), .int .u64 (m : Int)] 54)) w.heap.size n m where
  c0 := by rw [World.cell?_alloc_mark]; rfl
  c1 := by rw [World.cell?_alloc_mark]; rfl
  fz := fun o => World.frozen?_alloc_at _ _ _ _ rfl
theorem At.of_block {w w' : World} {b n m : Nat} (h : At w b n m) (hb : w'.heap[b]? = w.heap[b]?) : At w' b n m where
  c0 := by rw [World.cell?_of_block (w := w) (a := ⟨b, 0, none⟩) hb]; exact h.c0
  c1 := by rw [World.cell?_of_block (w := w) (a := ⟨b, 1, none⟩) hb]; exact h.c1
  fz := fun o => by rw [World.frozen?_of_block (w := w) (a := ⟨b, o, none⟩) hb]; exact h.fz o
theorem At.below {w w' : World} {b n m B : Nat} (h : At w b n m) (hb : Below B w w') (hB : b < B) : At w' b n m := h.of_block (hb.block _ hB)
theorem At.alloc {w : World} {b n m : Nat} (h : At w b n m) (o : Obj) : At (w.alloc o) b n m := h.of_block (Below.heap_alloc w o b h.lt)
theorem At.drew {w : World} {b n m : Nat} (h : At w b n m) : At w.drew b n m := h.of_block rfl
theorem At.far {w : World} {b n m : Nat} (h : At w b n m) {p : Addr} (hp : b ≠ p.block) (v : Value) : At (w.setCell p v) b n m := h.of_block (Below.heap_setCell w p v b hp)
theorem At.setM {w : World} {b n m : Nat} (h : At w b n m) {v : Int} {m' : Nat} (hv : v = (m' : Int)) : At (w.setCell ⟨b, 1, none⟩ (.int .u64 v)) b n m' where
  c0 := by rw [World.cell?_setCell_other _ _ _ _ (by simp)]; exact h.c0
  c1 := by rw [hv]; exact World.cell?_setCell_same _ _ _ h.c1
  fz := fun o => by rw [World.frozen?_setCell]; exact h.fz o
theorem At.setN {w : World} {b n m : Nat} (h : At w b n m) {v : Int} {n' : Nat} (hv : v = (n' : Int)) : At (w.setCell ⟨b, 0, none⟩ (.int .i64 v)) b n' m where
  c0 := by rw [hv]; exact World.cell?_setCell_same _ _ _ h.c0
  c1 := by rw [World.cell?_setCell_other _ _ _ _ (by simp)]; exact h.c1
  fz := fun o => by rw [World.frozen?_setCell]; exact h.fz o

theorem size1 (w : World) (o : Obj) : (w.alloc o).heap.size = w.heap.size + 1 := by simp
theorem bel3 {w w1 : World} {o o' : Obj} (h : Below ((w.alloc o).alloc o').heap.size ((w.alloc o).alloc o') w1) : Below w.heap.size w w1 := bel2 (bel2 h)
theorem not_val {m k : Nat} (hm : m < 2 ^ 64) (hk : k < 64) : bits .andNot .u64 (m : Int) (2 ^ k) = ((M.del m k : Nat) : Int) := by
  have hp : 2 ^ k < 2 ^ 64 := Nat.pow_lt_pow_right (by omega) hk
  have := u64_andNot_nat m (2 ^ k) (by omega) (by omega)
  unfold M.del
  rw [← this]
  simp
theorem put_any (n m : Nat) (i : Int) (w : World) (hn : n ≤ 64) (hm : m < 2 ^ n) : Calls Tryz.prog 37 #[V n m, .int .i64 i] w fun e w' => e = .returned (.tuple #[V (putN n i) (putM n m i), .int .i64 (putE n i)]) ∧ Below w.heap.size w w' := by
  have HM := Lib.hid (M.lt64 hn hm)
  have HR := fun w => Lib.hid (reaches_any n m i w)
  unfold putN putM putE
  by_cases h1 : 0 ≤ i ∧ i < (n : Int)
  · rw [decide_eq_true h1] at HR
    rw [if_pos h1, if_pos h1, if_pos h1]
    obtain ⟨h2, h3⟩ := h1
    obtain ⟨k, rfl⟩ := Int.eq_ofNat_of_zero_le h2
    rw [Int.toNat_natCast]
    unfold V at HR ⊢
    have HV := Lib.hid (or_val HM.out (k := k) (by omega))
    have hwr := wrap_pow (k := k) (by omega)
    clear hm
    go_enter Tryz.func37, Tryz.ntmps37
    go_wp2_with (go_at_call 60; ((with_reducible refine (HR _).out.mono ?_); rintro e w1 ⟨rfl, hb⟩); have RA := ((at_new w n m).alloc (.cells #[.int .i64 ((0 : Nat) : Int), .int .u64 ((0 : Nat) : Int)] 54)).below hb (by simp; omega); have RB := (at_new (w.alloc (.cells #[.int .i64 (n : Int), .int .u64 (m : Int)] 54)) 0 0).below hb (by simp); have RC := bel3 hb; rw [size1] at RB; have a1 := RA.c1; have af := RA.fz 1; have HA := Lib.hid RA; have HB := Lib.hid RB; have Hb := Lib.hid RC; clear hb RA RB RC)
    go_region
    have RA := (HA.out.setM (v := bits .or .u64 (m : Int) (2 ^ k)) HV.out).drew
    have RB := (HB.out.far (p := ⟨w.heap.size, 1, none⟩) (by simp) (.int .u64 (bits .or .u64 (m : Int) (2 ^ k)))).drew
    have Hb2 := Lib.hid ((Hb.out.setCell (p := ⟨w.heap.size, 1, none⟩) (by simp) (.int .u64 (bits .or .u64 (m : Int) (2 ^ k)))).drew)
    clear a1 af HA HB Hb
    generalize (w1.setCell ⟨w.heap.size, 1, none⟩ (.int .u64 (bits .or .u64 (m : Int) (2 ^ k)))).drew = w2 at *
    obtain ⟨a0, a1, af⟩ := RA
    obtain ⟨b0, b1, bf⟩ := RB
    have bf0 := bf 0
    have bf1 := bf 1
    clear af bf
    go_wp2
    exact bodyPost_ret (v := .tuple #[.agg #[.int .i64 (n : Int), .int .u64 ((M.put m k : Nat) : Int)], .int .i64 0]) (by simp [results, Tryz.results37, go_sem, b0, b1]) rfl ⟨rfl, (Hb2.out.setCell (by simp) _).setCell (by simp) _⟩
  · rw [decide_eq_false h1] at HR
    rw [if_neg h1, if_neg h1, if_neg h1]
    unfold V at HR ⊢
    clear hm h1
    go_enter Tryz.func37, Tryz.ntmps37
    go_wp2_with (go_at_call 60; ((with_reducible refine (HR _).out.mono ?_); rintro e w1 ⟨rfl, hb⟩); have RB := (at_new (w.alloc (.cells #[.int .i64 (n : Int), .int .u64 (m : Int)] 54)) 0 0).below hb (by simp); have RC := bel3 hb; rw [size1] at RB; obtain ⟨b0, b1, bf⟩ := RB; have bf0 := bf 0; have bf1 := bf 1; have Hb := Lib.hid RC; clear hb RC bf)
    exact bodyPost_ret (v := .tuple #[.agg #[.int .i64 ((0 : Nat) : Int), .int .u64 ((0 : Nat) : Int)], .int .i64 2]) (by simp [results, Tryz.results37, go_sem, b0, b1]) rfl ⟨rfl, (Hb.out.setCell (by simp) _).setCell (by simp) _⟩
theorem bel4 (w : World) (a b c : Obj) : Below w.heap.size w (((w.alloc a).alloc b).alloc c) := (((bel1 w a).alloc (by simp) b).alloc (by simp; omega) c)
def orN (n k : Nat) : Nat := if n = k then n else 0
def orM (n m k j : Nat) : Nat := if n = k then m ||| j else 0
def orE (n k : Nat) : Int := if n = k then 0 else 1
end Go.Proofs.YtcofahpeinkhfaaGreat.B
