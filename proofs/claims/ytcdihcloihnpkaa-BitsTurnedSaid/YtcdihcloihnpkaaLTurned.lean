/-
  PROVED: in whatever order places are marked, the row is one; what is marked and taken away again is as before. CONDITIONS: none (any length; any bytes, of which up to 100 are used as places).
-/
import Derived.Test.YtcdihcloihnpkaaBLaw
namespace Go.Proofs.Ytcdihcloihnpkaa.bitsTurned
open Go.ChangeShapes Go.WideShapes Go.ChangeAt Go.RowKit Go.Joins B
open Go.ChangeMaps (open_string shut_string)
set_option linter.unusedVariables false
set_option linter.unusedSimpArgs false
set_option maxRecDepth 20000

theorem at_two (w : World) (o : Obj) (n m : Nat) : At ((w.alloc o).alloc (.cells #[.int .i64 (n : Int), .int .u64 (m : Int)] 26)) (w.heap.size + 1) n m := by
  have := at_new (w.alloc o) n m
  rw [size1] at this
  exact this
theorem below_self (B : Nat) (w : World) : Below B w w := Below.refl _ _
/-- a call that only makes memory, from whatever world behind w0 -/
theorem kp {f : Nat} {args : Array Value} {e0 : Ending} (w0 : World) (H : ∀ w, Hid (Calls Try.prog f args w fun e w' => e = e0 ∧ Below w.heap.size w w')) :
    Hid (∀ w, Below w0.heap.size w0 w → Calls Try.prog f args w fun e w' => e = e0 ∧ Below w0.heap.size w0 w') := Lib.hid fun w hw => (H w).out.mono (by
  rintro e w' ⟨rfl, hb⟩
  exact ⟨rfl, below_up hw hb hw.size⟩)
theorem kpx {f : Nat} {args : Array Value} {e0 : Ending} (w0 : World) (H : ∀ w, Hid (Calls Try.prog f args w fun e w' => e = e0 ∧ Below w.heap.size w w')) :
    Hid (∀ w, Below w0.heap.size w0 w → Calls Try.prog f args w fun e w' => e = e0 ∧ Below w0.heap.size w0 w' ∧ Below w.heap.size w w') := Lib.hid fun w hw => (H w).out.mono (by
  rintro e w' ⟨rfl, hb⟩
  exact ⟨rfl, below_up hw hb hw.size, hb⟩)
theorem bal {w0 w : World} (h : Below w0.heap.size w0 w) (o : Obj) : Below w0.heap.size w0 (w.alloc o) := h.alloc h.size o
theorem bst {w0 w : World} (h : Below w0.heap.size w0 w) {b o : Nat} (hb : w0.heap.size ≤ b) (v : Value) : Below w0.heap.size w0 (w.setCell ⟨b, o, none⟩ v) := h.setCell hb v
theorem arg_is (y : UInt8) : IntKind.i64.wrap ((y.toNat : Int).tmod 64) = ((y.toNat % 64 : Nat) : Int) := by
  have h1 : (y.toNat : Int).tmod 64 = ((y.toNat % 64 : Nat) : Int) := by
    rw [Int.tmod_eq_emod_of_nonneg (by omega)]
    omega
  rw [h1, IntKind.wrap_i64]
  omega
theorem put_cases (c m y : Nat) : (putE c (y : Int) = 0 ∧ putN c (y : Int) = c ∧ putM c m (y : Int) = M.put m y ∧ y < c) ∨ (putE c (y : Int) = 2 ∧ ¬ y < c) := by
  by_cases h : y < c
  · obtain ⟨h1, h2, h3⟩ := putM_in (n := c) (m := m) h
    exact .inl ⟨h3, h1, h2, h⟩
  · refine .inr ⟨?_, h⟩
    unfold putE
    rw [if_neg (by omega)]
def stepm (c m y : Nat) : Nat := if y < c then M.put m y else m
def puts (c : Nat) (xs : List Nat) : Nat := xs.foldl (fun m x => stepm c m (x % 64)) 0
theorem stepm_lt {c m y : Nat} (h : m < 2 ^ c) : stepm c m y < 2 ^ c := by
  unfold stepm
  split
  · exact M.put_lt h (by assumption)
  · exact h
theorem puts_snoc (c : Nat) (xs : List Nat) (x : Nat) : puts c (xs ++ [x]) = stepm c (puts c xs) (x % 64) := by simp [puts, List.foldl_append]
theorem fold_lt (c : Nat) : ∀ (xs : List Nat) (m : Nat), m < 2 ^ c → xs.foldl (fun m x => stepm c m (x % 64)) m < 2 ^ c
  | [], m, h => h
  | x :: xs, m, h => fold_lt c xs _ (stepm_lt h)
theorem puts_lt (c : Nat) (xs : List Nat) : puts c xs < 2 ^ c := fold_lt c xs 0 (Nat.pow_pos (by omega))
theorem stepm_bit (c m y j : Nat) : (stepm c m y).testBit j = (m.testBit j || (decide (y < c) && decide (y = j))) := by
  unfold stepm
  by_cases h : y < c
  · rw [if_pos h, M.put_bit]; simp [h]
  · rw [if_neg h]; simp [h]
theorem fold_bit (c j : Nat) : ∀ (xs : List Nat) (m : Nat), (xs.foldl (fun m x => stepm c m (x % 64)) m).testBit j = (m.testBit j || (decide (j < c) && xs.any fun x => decide (x % 64 = j)))
  | [], m => by simp
  | x :: xs, m => by
    rw [List.foldl_cons, fold_bit c j xs, stepm_bit, List.any_cons]
    by_cases h : x % 64 = j
    · rw [h]; cases m.testBit j <;> cases decide (j < c) <;> simp
    · simp [h]
theorem puts_rev (c : Nat) (xs : List Nat) : puts c xs.reverse = puts c xs := by
  refine M.same_bits fun j => ?_
  unfold puts
  rw [fold_bit, fold_bit, List.any_reverse]
/-- the first k bytes as numbers -/
def nums (t : List UInt8) (k : Nat) : List Nat := (t.take k).map fun c => c.toNat
theorem nums_len {t : List UInt8} {k : Nat} (h : k ≤ t.length) : (nums t k).length = k := by simp [nums]; omega
theorem nums_get {t : List UInt8} {k i : Nat} {c : UInt8} (hi : i < k) (h : t[i]? = some c) : (nums t k)[i]? = some c.toNat := by
  simp [nums, List.getElem?_take, hi, h]
theorem take_get {xs : List Nat} {i x : Nat} (h : xs[i]? = some x) : xs.take (i + 1) = xs.take i ++ [x] := by
  rw [List.take_add_one, h]
  rfl
theorem rev_get {xs : List Nat} {k i x : Nat} (hl : xs.length = k) (hi : i < k) (h : xs[k - 1 - i]? = some x) : xs.reverse[i]? = some x := by
  rw [List.getElem?_reverse (by omega), hl]
  exact h
theorem bytes_at {w : World} {a : Option Addr} {n cap : Nat} {t : List UInt8} (h : Row w a n cap (u8s t)) {i : Nat} (hi : i < n) :
    ∃ b off c, a = some ⟨b, off, none⟩ ∧ t[i]? = some c ∧ (∀ w', Below w.heap.size w w' → w'.cell? ⟨b, off + i, none⟩ = some (.int .u8 (c.toNat : Int))) ∧ b < w.heap.size := by
  obtain ⟨h1, h2, h3, h4⟩ := h
  rw [u8s_length] at h1
  rcases h4 with h4 | ⟨b, off, ha, hlt, hc⟩
  · have : t = [] := by simpa [u8s] using h4
    subst this; simp at h1; omega
  · obtain ⟨c, hx⟩ : ∃ c, t[i]? = some c := ⟨t[i]'(by omega), List.getElem?_eq_getElem _⟩
    refine ⟨b, off, c, ha, hx, fun w' hb => ?_, hlt⟩
    rw [hb.cell (p := ⟨b, off + i, none⟩) hlt, hc i hi]
    simp [u8s, u8, hx]

set_option maxHeartbeats 4000000 in
theorem walk (x0 : Int) (a1 : Option Addr) (n1 c1 : Nat) (l1 : List UInt8) (w : World) (w0 : (Lit.int .i64 x0).wf = true) (w1 : Row w a1 n1 c1 (u8s l1)) :
    Calls Try.prog 8 #[.int .i64 x0, .slice a1 n1 c1] w fun e w' => e = .returned (.bool true) ∧ Below w.heap.size w w' := by
  have hc := M.len_le x0
  have HN := fun w => Lib.hid (new_any x0 w)
  unfold V at HN
  generalize M.len x0 = c at *
  have hn1 : n1 ≤ maxLen := by have := w1.2.1; have := w1.2.2.1; omega
  unfold maxLen at hn1
  have hmin : (if (100 : Int) < (n1 : Int) then (100 : Int) else (n1 : Int)) = ((min n1 100 : Nat) : Int) := by split <;> omega
  have hk1 : min n1 100 ≤ n1 := by omega
  have hk2 : min n1 100 ≤ 100 := by omega
  have hll : l1.length = n1 := by rw [← w1.1, u8s_length]
  have HW := Lib.hid w1
  have HLL := Lib.hid hll
  clear w0 w1 hll
  generalize hK : min n1 100 = K at *
  clear hK
  go_enter Try.func8, Try.ntmps8
  go_wp2_with (first
    | (go_at_call 10; ((with_reducible refine (awake_any _).mono ?_); rintro e w1 ⟨rfl, hb⟩)
       have HB1 := Lib.hid hb
       clear hb)
    | (go_at_call 11; ((with_reducible refine ((HN _).out).mono ?_); rintro e w2 ⟨rfl, hb⟩)
       have HB2 := Lib.hid (below_up (HB1.out) hb (HB1.out).size)
       clear hb)
    | (go_at_call 11; ((with_reducible refine ((HN _).out).mono ?_); rintro e w3 ⟨rfl, hb⟩)
       have HB3 := Lib.hid (below_up (HB2.out) hb (HB2.out).size)
       have HC3a := Lib.hid ((HB3.out).alloc (HB3.out).size (.cells #[.int .i64 (c : Int), .int .u64 ((0 : Nat) : Int)] 26))
       have a3a := Lib.hid (at_new w3 c 0)
       have HC3b := Lib.hid ((HC3a.out).alloc (HC3a.out).size (.cells #[.int .i64 (c : Int), .int .u64 ((0 : Nat) : Int)] 26))
       have b3a := Lib.hid (at_two w3 (.cells #[.int .i64 (c : Int), .int .u64 ((0 : Nat) : Int)] 26) c 0)
       clear hb))
  have HA := Lib.hid a3a.out
  generalize hgA : w3.heap.size = A at *
  have GA := (HA.out).alloc (.cells #[.int .i64 (c : Int), .int .u64 ((0 : Nat) : Int)] 26)
  have GB := b3a.out
  have GW := HC3b.out
  have hwA := HB3.out.size
  rw [hgA] at hwA
  clear HN hmin HA a3a b3a HC3a HC3b HB1 HB2 HB3 hgA
  go_loopw [8] (fun t wr => ∃ i : Nat, i ≤ K ∧ t = .int .i64 i ∧ At wr A c (puts c ((nums l1 K).take i)) ∧ At wr (A + 1) c (puts c ((nums l1 K).reverse.take i)) ∧ Below w.heap.size w wr) (fun t _ => K - (intOf t).toNat)
  case atStart => exact ⟨0, by omega, rfl, GA, GB, GW⟩
  case round =>
    obtain ⟨i, hi, rfl, ga, gb, gw⟩ := hrel
    have Ga := Lib.hid ga
    have Gb := Lib.hid gb
    have Gw := Lib.hid gw
    clear GA GB GW ga gb gw
    by_cases hik : i < K
    · obtain ⟨b1, off1, y1, rfl, hx1, hcell1, hblt⟩ := bytes_at HW.out (show i < n1 by omega)
      obtain ⟨b2, off2, y2, he2, hx2, hcell2, _⟩ := bytes_at HW.out (show K - 1 - i < n1 by omega)
      injection he2 with he2
      injection he2 with e1 e2 _
      subst e1 e2
      have HT1 := Lib.hid (take_get (nums_get hik hx1))
      have HT2 := Lib.hid (take_get (rev_get (nums_len (by rw [HLL.out]; exact hk1)) hik (nums_get (show K - 1 - i < K by omega) hx2)))
      have hma := puts_lt c ((nums l1 K).take i)
      have hmb := puts_lt c ((nums l1 K).reverse.take i)
      have HS1 := Lib.hid (puts_snoc c ((nums l1 K).take i) y1.toNat)
      have HS2 := Lib.hid (puts_snoc c ((nums l1 K).reverse.take i) y2.toNat)
      rw [← HT1.out] at HS1
      rw [← HT2.out] at HS2
      generalize puts c ((nums l1 K).take i) = ma at *
      generalize puts c ((nums l1 K).reverse.take i) = mb at *
      have hp1 := fun w => put_any c ma ((y1.toNat % 64 : Nat) : Int) w hc hma
      have hp2 := fun w => put_any c mb ((y2.toNat % 64 : Nat) : Int) w hc hmb
      have hc1 := put_cases c ma (y1.toNat % 64)
      have hc2 := put_cases c mb (y2.toNat % 64)
      unfold V at hp1 hp2
      generalize putN c ((y1.toNat % 64 : Nat) : Int) = N1 at *
      generalize putM c ma ((y1.toNat % 64 : Nat) : Int) = M1 at *
      generalize putE c ((y1.toNat % 64 : Nat) : Int) = E1 at *
      generalize putN c ((y2.toNat % 64 : Nat) : Int) = N2 at *
      generalize putM c mb ((y2.toNat % 64 : Nat) : Int) = M2 at *
      generalize putE c ((y2.toNat % 64 : Nat) : Int) = E2 at *
      have HP1 : ∀ w, Hid (Calls Try.prog 13 #[.agg #[.int .i64 (c : Int), .int .u64 (ma : Int)], .int .i64 (IntKind.i64.wrap ((y1.toNat : Int).tmod 64))] w fun e w' => e = .returned (.tuple #[.agg #[.int .i64 (N1 : Int), .int .u64 (M1 : Int)], .int .i64 E1]) ∧ Below w.heap.size w w') := fun w => Lib.hid (by
        rw [arg_is]
        exact hp1 w)
      have HP2 : ∀ w, Hid (Calls Try.prog 13 #[.agg #[.int .i64 (c : Int), .int .u64 (mb : Int)], .int .i64 (IntKind.i64.wrap ((y2.toNat : Int).tmod 64))] w fun e w' => e = .returned (.tuple #[.agg #[.int .i64 (N2 : Int), .int .u64 (M2 : Int)], .int .i64 E2]) ∧ Below w.heap.size w w') := fun w => Lib.hid (by
        rw [arg_is]
        exact hp2 w)
      have HC1 := Lib.hid hc1
      have HC2 := Lib.hid hc2
      have HX1 := Lib.hid hcell1
      have HX2 := Lib.hid hcell2
      clear hx1 hx2 HT1 HT2 hma hmb hp1 hp2 hc1 hc2 hcell1 hcell2
      have hiI : (i : Int) < (n1 : Int) := by omega
      have hi0 : (0 : Int) ≤ (i : Int) := by omega
      go_upto_region 8 with (fail)
      go_cut [9, 10] (fun p e wx => ∃ g : Nat, p = .pointer (some ⟨g, 0, none⟩) ∧ e = .int .i64 E1 ∧ At wx g N1 M1 ∧ At wx A c ma ∧ At wx (A + 1) c mb ∧ Below w.heap.size w wx ∧ A + 1 < g)
      case first =>
        have KP := kpx wr HP1
        have hb0 := below_self wr.heap.size wr
        have c0 := Ga.out.c0
        have c1 := Ga.out.c1
        have HK : Hid (∀ w', Below wr.heap.size wr w' → (w'.cell? ⟨A, 0, none⟩ = some (.int .i64 (c : Int)) ∧ w'.cell? ⟨A, 1, none⟩ = some (.int .u64 (ma : Int)) ∧ w'.cell? ⟨b1, off1 + i, none⟩ = some (.int .u8 (y1.toNat : Int)))) := Lib.hid fun w' hb => by
          have a0 := Ga.out.below hb Ga.out.lt
          exact ⟨a0.c0, a0.c1, HX1.out _ (below_up Gw.out hb Gw.out.size)⟩
        go_region_held3 (fun w' => w'.cell? ⟨A, 0, none⟩ = some (.int .i64 (c : Int)) ∧ w'.cell? ⟨A, 1, none⟩ = some (.int .u64 (ma : Int)) ∧ w'.cell? ⟨b1, off1 + i, none⟩ = some (.int .u8 (y1.toNat : Int)))
          (first | exact HK.out _ (by assumption) | exact HK.out _ (Below.drew (by assumption)) | exact HK.out _ (bal (by assumption) _) | exact HK.out _ (Below.drew (bal (below_self _ _) _)) | exact HK.out _ (bst (bst (by assumption) (Nat.le_refl _) _) (Nat.le_refl _) _))
          (first
            | (go_at_call 13; with_reducible refine (KP.out _ (by first | assumption | exact Below.drew (by assumption) | exact Below.drew (bal (below_self _ _) _))).mono ?_; rintro e wl ⟨rfl, hl, hx⟩; try (have zg := (At.drew (at_new wr 0 0)).below hx (by simp); have zg0 := zg.c0; have zg1 := zg.c1; have zf0 := zg.fz 0; have zf1 := zg.fz 1)))
        all_goals
          have hsl := hl.size
          have la := Ga.out.lt
          have lb := Gb.out.lt
          have ta := Ga.out.below hl Ga.out.lt
          have tb := Gb.out.below hl Gb.out.lt
          have tw := below_up Gw.out hl Gw.out.size
          go_wp2_with fail
          go_meet
        · exact ⟨wl.heap.size, rfl, rfl, at_new wl N1 M1, ta.alloc _, tb.alloc _, tw.alloc tw.size _, by omega⟩
        · exact ⟨wr.heap.size, rfl, rfl, (zg.setN rfl).setM rfl, (ta.far (by simp; omega) _).far (by simp; omega) _, (tb.far (by simp; omega) _).far (by simp; omega) _, (tw.setCell Gw.out.size _).setCell Gw.out.size _, by omega⟩
      case rest =>
        obtain ⟨g, rfl, rfl, gg, ga, gb, gw, hg⟩ := hcut
        have Gg2 := Lib.hid gg
        have Ga2 := Lib.hid ga
        have Gb2 := Lib.hid gb
        have Gw2 := Lib.hid gw
        have la := Ga.out.lt
        have hsa := Ga2.out.lt
        clear gg ga gb gw
        go_upto_if 46 with (fail)
        go_cut [8] (fun t wx => t = .int .i64 (i : Int) ∧ At wx A c (stepm c ma (y1.toNat % 64)) ∧ At wx (A + 1) c mb ∧ Below w.heap.size w wx)
        case first =>
          have d0 := Gg2.out.c0
          have d1 := Gg2.out.c1
          have d2 := Ga2.out.fz 0
          have d3 := Ga2.out.fz 1
          have d4 := Ga2.out.c0
          have d5 := Ga2.out.c1
          rcases HC1.out with ⟨e1, e2, e3, hy⟩ | ⟨e1, hy⟩
          · subst e1 e2 e3
            go_wp2
            go_meet
            refine ⟨rfl, ?_, ?_, (Gw2.out.setCell (by simp; omega) _).setCell (by simp; omega) _⟩
            · unfold stepm
              rw [if_pos hy]
              exact (Ga2.out.setN rfl).setM rfl
            · exact (Gb2.out.far (by simp) _).far (by simp) _
          · subst e1
            go_wp2
            go_meet
            refine ⟨rfl, ?_, ?_, Gw2.out⟩
            · unfold stepm
              rw [if_neg hy]
              exact Ga2.out
            · exact Gb2.out
        case rest =>
          obtain ⟨rfl, ga, gb, gw⟩ := hcut
          have Ga3 := Lib.hid ga
          have Gb3 := Lib.hid gb
          have Gw3 := Lib.hid gw
          generalize hst : stepm c ma (y1.toNat % 64) = ma2 at *
          have Hst := Lib.hid hst
          have hwr1 : IntKind.i64.wrap ((K : Int) - 1) = ((K - 1 : Nat) : Int) := by rw [IntKind.wrap_i64]; omega
          have hwr2 : IntKind.i64.wrap (((K - 1 : Nat) : Int) - (i : Int)) = ((K - 1 - i : Nat) : Int) := by rw [IntKind.wrap_i64]; omega
          have hjI : ((K - 1 - i : Nat) : Int) < (n1 : Int) := by omega
          have hj0 : (0 : Int) ≤ ((K - 1 - i : Nat) : Int) := by omega
          clear ga gb gw hst
          generalize hj : K - 1 - i = j at *
          clear hj
          go_upto_region 11 with (fail)
          go_cut [11, 12] (fun p e wx => ∃ g : Nat, p = .pointer (some ⟨g, 0, none⟩) ∧ e = .int .i64 E2 ∧ At wx g N2 M2 ∧ At wx A c ma2 ∧ At wx (A + 1) c mb ∧ Below w.heap.size w wx ∧ A + 1 < g)
          case first =>
            have KP := kpx wc HP2
            have hb0 := below_self wc.heap.size wc
            have c0 := Gb3.out.c0
            have c1 := Gb3.out.c1
            have HK : Hid (∀ w', Below wc.heap.size wc w' → (w'.cell? ⟨(A + 1), 0, none⟩ = some (.int .i64 (c : Int)) ∧ w'.cell? ⟨(A + 1), 1, none⟩ = some (.int .u64 (mb : Int)) ∧ w'.cell? ⟨b1, off1 + j, none⟩ = some (.int .u8 (y2.toNat : Int)))) := Lib.hid fun w' hb => by
              have a0 := Gb3.out.below hb Gb3.out.lt
              exact ⟨a0.c0, a0.c1, HX2.out _ (below_up Gw3.out hb Gw3.out.size)⟩
            go_region_held3 (fun w' => w'.cell? ⟨(A + 1), 0, none⟩ = some (.int .i64 (c : Int)) ∧ w'.cell? ⟨(A + 1), 1, none⟩ = some (.int .u64 (mb : Int)) ∧ w'.cell? ⟨b1, off1 + j, none⟩ = some (.int .u8 (y2.toNat : Int)))
              (first | exact HK.out _ (by assumption) | exact HK.out _ (Below.drew (by assumption)) | exact HK.out _ (bal (by assumption) _) | exact HK.out _ (Below.drew (bal (below_self _ _) _)) | exact HK.out _ (bst (bst (by assumption) (Nat.le_refl _) _) (Nat.le_refl _) _))
              (first
                | (go_at_call 13; with_reducible refine (KP.out _ (by first | assumption | exact Below.drew (by assumption) | exact Below.drew (bal (below_self _ _) _))).mono ?_; rintro e wl ⟨rfl, hl, hx⟩; try (have zg := (At.drew (at_new wc 0 0)).below hx (by simp); have zg0 := zg.c0; have zg1 := zg.c1; have zf0 := zg.fz 0; have zf1 := zg.fz 1)))
            all_goals
              have hsl := hl.size
              have la := Ga3.out.lt
              have lb := Gb3.out.lt
              have ta := Ga3.out.below hl Ga3.out.lt
              have tb := Gb3.out.below hl Gb3.out.lt
              have tw := below_up Gw3.out hl Gw3.out.size
              go_wp2_with fail
              go_meet
            · exact ⟨wl.heap.size, rfl, rfl, at_new wl N2 M2, ta.alloc _, tb.alloc _, tw.alloc tw.size _, by omega⟩
            · exact ⟨wc.heap.size, rfl, rfl, (zg.setN rfl).setM rfl, (ta.far (by simp; omega) _).far (by simp; omega) _, (tb.far (by simp; omega) _).far (by simp; omega) _, (tw.setCell Gw3.out.size _).setCell Gw3.out.size _, by omega⟩
          case rest =>
            obtain ⟨g, rfl, rfl, gg, ga, gb, gw, hg⟩ := hcut
            have Gg4 := Lib.hid gg
            have Ga4 := Lib.hid ga
            have Gb4 := Lib.hid gb
            have Gw4 := Lib.hid gw
            have la := Ga3.out.lt
            clear gg ga gb gw
            have d0 := Gg4.out.c0
            have d1 := Gg4.out.c1
            have d2 := Gb4.out.fz 0
            have d3 := Gb4.out.fz 1
            have d4 := Gb4.out.c0
            have d5 := Gb4.out.c1
            have hws : w.heap.size ≤ A + 1 := by omega
            rcases HC2.out with ⟨e1, e2, e3, hy⟩ | ⟨e1, hy⟩
            · subst e1 e2 e3
              have hs2 : stepm N2 mb (y2.toNat % 64) = M.put mb (y2.toNat % 64) := by unfold stepm; rw [if_pos hy]
              have HS3 := Lib.hid (HS2.out.trans hs2)
              clear hs2
              go_wp2
              go_roundw
              case rel => exact ⟨i + 1, by omega, by go_num, by rw [HS1.out]; exact (Ga4.out.far (by simp) _).far (by simp) _, by rw [HS3.out]; exact (Gb4.out.setN rfl).setM rfl, (Gw4.out.setCell hws _).setCell hws _⟩
              case measure => simp [intOf]; omega
            · subst e1
              have hs2 : stepm c mb (y2.toNat % 64) = mb := by unfold stepm; rw [if_neg hy]
              have HS3 := Lib.hid (HS2.out.trans hs2)
              clear hs2
              go_wp2
              go_roundw
              case rel => exact ⟨i + 1, by omega, by go_num, by rw [HS1.out]; exact Ga4.out, by rw [HS3.out]; exact Gb4.out, Gw4.out⟩
              case measure => simp [intOf]; omega
    · obtain rfl : i = K := by omega
      have hlt := puts_lt c (nums l1 i)
      have e1 : (nums l1 i).take i = nums l1 i := List.take_of_length_le (by rw [nums_len (by rw [HLL.out]; exact hk1)]; omega)
      have e2 : (nums l1 i).reverse.take i = (nums l1 i).reverse := List.take_of_length_le (by rw [List.length_reverse, nums_len (by rw [HLL.out]; exact hk1)]; omega)
      rw [e1] at Ga
      rw [e2, puts_rev] at Gb
      generalize puts c (nums l1 i) = m at *
      have HT := fun w => Lib.hid (text_any c m w hc hlt)
      unfold V at HT
      generalize str (M.txt c m) = T at *
      clear e1 e2 hik
      go_wp2
      have KT := kp wr HT
      have q0z := Ga.out.c0
      have q0y := Ga.out.c1
      have q1z := Gb.out.c0
      have q1y := Gb.out.c1
      have HK : Hid (∀ w', Below wr.heap.size wr w' → (w'.cell? ⟨A, 0, none⟩ = some (.int .i64 (c : Int)) ∧ w'.cell? ⟨A, 1, none⟩ = some (.int .u64 (m : Int)) ∧ w'.cell? ⟨(A + 1), 0, none⟩ = some (.int .i64 (c : Int)) ∧ w'.cell? ⟨(A + 1), 1, none⟩ = some (.int .u64 (m : Int)))) := Lib.hid fun w' hb => by
        have a0 := (Ga.out).below hb (Ga.out).lt
        have a1 := (Gb.out).below hb (Gb.out).lt
        exact ⟨a0.c0, a0.c1, a1.c0, a1.c1⟩
      have hb0 := below_self wr.heap.size wr
      go_region_held3 (fun w' => w'.cell? ⟨A, 0, none⟩ = some (.int .i64 (c : Int)) ∧ w'.cell? ⟨A, 1, none⟩ = some (.int .u64 (m : Int)) ∧ w'.cell? ⟨(A + 1), 0, none⟩ = some (.int .i64 (c : Int)) ∧ w'.cell? ⟨(A + 1), 1, none⟩ = some (.int .u64 (m : Int)))
        (first | exact HK.out _ (by assumption) | exact HK.out _ (Below.drew (by assumption)))
        (first
          | (go_at_call 22; with_reducible refine (KT.out _ (by first | assumption | exact Below.drew (by assumption))).mono ?_; rintro e wl ⟨rfl, hl⟩))
      have Ga5 := Lib.hid (Ga.out.below hl Ga.out.lt)
      have Gw5 := Lib.hid (below_up Gw.out hl Gw.out.size)
      clear hl Ga Gb Gw HT KT HK q0z q0y q1z q1y hb0
      have HLt := Lib.hid hlt
      have HL : ∀ w, Hid (Calls Try.prog 25 #[.agg #[.int .i64 (c : Int), .int .u64 (m : Int)]] w fun e w' => e = .returned (.int .i64 (c : Int)) ∧ Below w.heap.size w w') := fun w => Lib.hid (len_any c m w)
      clear hlt
      go_wp2
      go_loopw [13] (fun t wr => ∃ z : Nat, z ≤ c ∧ t = .int .i64 z ∧ At wr A c m ∧ Below w.heap.size w wr) (fun t _ => c - (intOf t).toNat)
      case atStart => exact ⟨0, by omega, rfl, Ga5.out, Gw5.out⟩
      case round =>
        obtain ⟨z, hz, rfl, ga, gw⟩ := hrel
        have Ga := Lib.hid ga
        have Gw := Lib.hid gw
        have g0 := ga.c0
        have g1 := ga.c1
        clear ga gw Ga5 Gw5
        by_cases hzc : z < c
        · have hp := fun w => put_any c m (z : Int) w hc HLt.out
          obtain ⟨e1, e2, e3⟩ := putM_in (n := c) (m := m) hzc
          rw [e1, e2, e3] at hp
          have hpl := M.put_lt HLt.out hzc
          have hdl := M.del_lt (i := z) HLt.out
          have h64 := M.lt64 hc HLt.out
          have hd1 := fun w => del_any c (M.put m z) (z : Int) w hc hpl
          have hd2 := fun w => del_any c m (z : Int) w hc HLt.out
          unfold putN delM putE at hd1 hd2
          simp only [if_pos (show 0 ≤ (z : Int) ∧ (z : Int) < (c : Int) from ⟨by omega, by omega⟩), Int.toNat_natCast] at hd1 hd2
          rw [M.del_put (by omega) h64] at hd1
          have ht := fun w => text_any c (M.del m z) w hc hdl
          have hh := fun w => has_any c (M.del m z) (z : Int) w hc hdl
          rw [has_bit hzc, M.del_bit (by omega) h64] at hh
          have hcx := fun w => count_any c (M.put m z) w hc hpl
          have hca := fun w => count_any c m w hc HLt.out
          have hle := M.all_more (fun k => M.put_more m z k) c
          generalize str (M.txt c (M.del m z)) = T2 at *
          generalize (M.all c (M.put m z)).length = q1 at *
          generalize (M.all c m).length = q2 at *
          have hq : decide (q1 < q2) = false := by simp; omega
          unfold V at hp hd1 hd2 ht hh hcx hca
          have HP : ∀ w, Hid (Calls Try.prog 13 #[.agg #[.int .i64 (c : Int), .int .u64 (m : Int)], .int .i64 (z : Int)] w fun e w' => e = .returned (.tuple #[.agg #[.int .i64 (c : Int), .int .u64 ((M.put m z : Nat) : Int)], .int .i64 0]) ∧ Below w.heap.size w w') := fun w => Lib.hid (hp w)
          have HD1 : ∀ w, Hid (Calls Try.prog 15 #[.agg #[.int .i64 (c : Int), .int .u64 ((M.put m z : Nat) : Int)], .int .i64 (z : Int)] w fun e w' => e = .returned (.tuple #[.agg #[.int .i64 (c : Int), .int .u64 ((M.del m z : Nat) : Int)], .int .i64 0]) ∧ Below w.heap.size w w') := fun w => Lib.hid (hd1 w)
          have HD2 : ∀ w, Hid (Calls Try.prog 15 #[.agg #[.int .i64 (c : Int), .int .u64 (m : Int)], .int .i64 (z : Int)] w fun e w' => e = .returned (.tuple #[.agg #[.int .i64 (c : Int), .int .u64 ((M.del m z : Nat) : Int)], .int .i64 0]) ∧ Below w.heap.size w w') := fun w => Lib.hid (hd2 w)
          have HT : ∀ w, Hid (Calls Try.prog 22 #[.agg #[.int .i64 (c : Int), .int .u64 ((M.del m z : Nat) : Int)]] w fun e w' => e = .returned (.string T2) ∧ Below w.heap.size w w') := fun w => Lib.hid (ht w)
          have HH : ∀ w, Hid (Calls Try.prog 26 #[.agg #[.int .i64 (c : Int), .int .u64 ((M.del m z : Nat) : Int)], .int .i64 (z : Int)] w fun e w' => e = .returned (.bool false) ∧ Below w.heap.size w w') := fun w => Lib.hid (by
            have := hh w
            simp only [decide_true, Bool.not_true, Bool.and_false] at this
            exact this)
          have HCx : ∀ w, Hid (Calls Try.prog 28 #[.agg #[.int .i64 (c : Int), .int .u64 ((M.put m z : Nat) : Int)]] w fun e w' => e = .returned (.int .i64 (q1 : Int)) ∧ Below w.heap.size w w') := fun w => Lib.hid (hcx w)
          have HCa : ∀ w, Hid (Calls Try.prog 28 #[.agg #[.int .i64 (c : Int), .int .u64 (m : Int)]] w fun e w' => e = .returned (.int .i64 (q2 : Int)) ∧ Below w.heap.size w w') := fun w => Lib.hid (hca w)
          generalize M.put m z = pm at *
          generalize M.del m z = dm at *
          clear hp hd1 hd2 ht hh hcx hca hpl hdl h64 e1 e2 e3 hle
          go_wp2_with (first
            | (go_at_call 25; ((with_reducible refine ((HL _).out).mono ?_); rintro e w21 ⟨rfl, hb⟩)
               have HB21 := Lib.hid (below_up (Gw.out) hb (Gw.out).size)
               have a21 := Lib.hid ((Ga.out).below hb (Ga.out).lt)
               have a21c0 := a21.out.c0
               have a21c1 := a21.out.c1
               have a21f0 := a21.out.fz 0
               have a21f1 := a21.out.fz 1
               have a21l := a21.out.lt
               clear hb)
            | (go_at_call 13; ((with_reducible refine ((HP _).out).mono ?_); rintro e w22 ⟨rfl, hb⟩)
               have HB22 := Lib.hid (below_up (HB21.out) hb (HB21.out).size)
               have a22 := Lib.hid ((a21.out).below hb (a21.out).lt)
               have a22c0 := a22.out.c0
               have a22c1 := a22.out.c1
               have a22f0 := a22.out.fz 0
               have a22f1 := a22.out.fz 1
               have a22l := a22.out.lt
               clear a21c0 a21c1 a21f0 a21f1
               have HC22x := Lib.hid ((HB22.out).alloc (HB22.out).size (.cells #[.int .i64 (c : Int), .int .u64 (pm : Int)] 26))
               have x22a := Lib.hid (at_new w22 c pm)
               clear hb)
            | (go_at_call 15; ((with_reducible refine ((HD1 _).out).mono ?_); rintro e w23 ⟨rfl, hb⟩)
               have HB23 := Lib.hid (below_up (HC22x.out) hb (HC22x.out).size)
               have a23 := Lib.hid (((a22.out).alloc _).below hb ((a22.out).alloc _).lt)
               have a23c0 := a23.out.c0
               have a23c1 := a23.out.c1
               have a23f0 := a23.out.fz 0
               have a23f1 := a23.out.fz 1
               have a23l := a23.out.lt
               have x23 := Lib.hid ((x22a.out).below hb (x22a.out).lt)
               have x23c0 := x23.out.c0
               have x23c1 := x23.out.c1
               have x23f0 := x23.out.fz 0
               have x23f1 := x23.out.fz 1
               have x23l := x23.out.lt
               clear a22c0 a22c1 a22f0 a22f1
               have HC23y := Lib.hid ((HB23.out).alloc (HB23.out).size (.cells #[.int .i64 (c : Int), .int .u64 (dm : Int)] 26))
               have y23a := Lib.hid (at_new w23 c dm)
               clear hb)
            | (go_at_call 15; ((with_reducible refine ((HD2 _).out).mono ?_); rintro e w24 ⟨rfl, hb⟩)
               have HB24 := Lib.hid (below_up (HC23y.out) hb (HC23y.out).size)
               have a24 := Lib.hid (((a23.out).alloc _).below hb ((a23.out).alloc _).lt)
               have a24c0 := a24.out.c0
               have a24c1 := a24.out.c1
               have a24f0 := a24.out.fz 0
               have a24f1 := a24.out.fz 1
               have a24l := a24.out.lt
               have x24 := Lib.hid (((x23.out).alloc _).below hb ((x23.out).alloc _).lt)
               have x24c0 := x24.out.c0
               have x24c1 := x24.out.c1
               have x24f0 := x24.out.fz 0
               have x24f1 := x24.out.fz 1
               have x24l := x24.out.lt
               have y24 := Lib.hid ((y23a.out).below hb (y23a.out).lt)
               have y24c0 := y24.out.c0
               have y24c1 := y24.out.c1
               have y24f0 := y24.out.fz 0
               have y24f1 := y24.out.fz 1
               have y24l := y24.out.lt
               clear a23c0 a23c1 a23f0 a23f1 x23c0 x23c1 x23f0 x23f1
               have HC24z := Lib.hid ((HB24.out).alloc (HB24.out).size (.cells #[.int .i64 (c : Int), .int .u64 (dm : Int)] 26))
               have z24a := Lib.hid (at_new w24 c dm)
               clear hb))
          have a25 := Lib.hid ((a24.out).alloc (.cells #[.int .i64 (c : Int), .int .u64 (dm : Int)] 26))
          have x25 := Lib.hid ((x24.out).alloc (.cells #[.int .i64 (c : Int), .int .u64 (dm : Int)] 26))
          have y25 := Lib.hid ((y24.out).alloc (.cells #[.int .i64 (c : Int), .int .u64 (dm : Int)] 26))
          have z25 := Lib.hid (z24a.out)
          have W25 := Lib.hid (HC24z.out)
          have hs25 := (HC24z.out).size
          generalize w24.alloc (.cells #[.int .i64 (c : Int), .int .u64 (dm : Int)] 26) = w25 at *
          have KT := kp w25 HT
          have KH := kp w25 HH
          have KCx := kp w25 HCx
          have KCa := kp w25 HCa
          have q0z := y25.out.c0
          have q0y := y25.out.c1
          have q1z := z25.out.c0
          have q1y := z25.out.c1
          have q2z := x25.out.c0
          have q2y := x25.out.c1
          have q3z := a25.out.c0
          have q3y := a25.out.c1
          have HK : Hid (∀ w', Below w25.heap.size w25 w' → (w'.cell? ⟨w23.heap.size, 0, none⟩ = some (.int .i64 (c : Int)) ∧ w'.cell? ⟨w23.heap.size, 1, none⟩ = some (.int .u64 (dm : Int)) ∧ w'.cell? ⟨w24.heap.size, 0, none⟩ = some (.int .i64 (c : Int)) ∧ w'.cell? ⟨w24.heap.size, 1, none⟩ = some (.int .u64 (dm : Int)) ∧ w'.cell? ⟨w22.heap.size, 0, none⟩ = some (.int .i64 (c : Int)) ∧ w'.cell? ⟨w22.heap.size, 1, none⟩ = some (.int .u64 (pm : Int)) ∧ w'.cell? ⟨A, 0, none⟩ = some (.int .i64 (c : Int)) ∧ w'.cell? ⟨A, 1, none⟩ = some (.int .u64 (m : Int)))) := Lib.hid fun w' hb => by
            have a0 := (y25.out).below hb (y25.out).lt
            have a1 := (z25.out).below hb (z25.out).lt
            have a2 := (x25.out).below hb (x25.out).lt
            have a3 := (a25.out).below hb (a25.out).lt
            exact ⟨a0.c0, a0.c1, a1.c0, a1.c1, a2.c0, a2.c1, a3.c0, a3.c1⟩
          have hb0 := below_self w25.heap.size w25
          go_region_held3 (fun w' => w'.cell? ⟨w23.heap.size, 0, none⟩ = some (.int .i64 (c : Int)) ∧ w'.cell? ⟨w23.heap.size, 1, none⟩ = some (.int .u64 (dm : Int)) ∧ w'.cell? ⟨w24.heap.size, 0, none⟩ = some (.int .i64 (c : Int)) ∧ w'.cell? ⟨w24.heap.size, 1, none⟩ = some (.int .u64 (dm : Int)) ∧ w'.cell? ⟨w22.heap.size, 0, none⟩ = some (.int .i64 (c : Int)) ∧ w'.cell? ⟨w22.heap.size, 1, none⟩ = some (.int .u64 (pm : Int)) ∧ w'.cell? ⟨A, 0, none⟩ = some (.int .i64 (c : Int)) ∧ w'.cell? ⟨A, 1, none⟩ = some (.int .u64 (m : Int)))
            (first | exact HK.out _ (by assumption) | exact HK.out _ (Below.drew (by assumption)))
            (first
              | (go_at_call 22; with_reducible refine (KT.out _ (by first | assumption | exact Below.drew (by assumption))).mono ?_; rintro e wl ⟨rfl, hl⟩)
              | (go_at_call 26; with_reducible refine (KH.out _ (by first | assumption | exact Below.drew (by assumption))).mono ?_; rintro e wl ⟨rfl, hl⟩)
              | (go_at_call 28; with_reducible refine (KCx.out _ (by first | assumption | exact Below.drew (by assumption))).mono ?_; rintro e wl ⟨rfl, hl⟩)
              | (go_at_call 28; with_reducible refine (KCa.out _ (by first | assumption | exact Below.drew (by assumption))).mono ?_; rintro e wl ⟨rfl, hl⟩))
          have Hl := Lib.hid hl
          clear hl
          go_wp2
          go_roundw
          case rel => exact ⟨z + 1, by omega, by go_num, a25.out.below Hl.out a25.out.lt, below_up W25.out Hl.out hs25⟩
          case measure => simp [intOf]; omega
        · have hzn : decide (z < c) = false := by simp; omega
          clear hzc
          go_wp2_with (go_at_call 25; ((with_reducible refine (HL _).out.mono ?_); rintro e w30 ⟨rfl, hb⟩); have HB30 := Lib.hid (below_up Gw.out hb Gw.out.size); clear hb)
          go_ret
          exact ⟨rfl, HB30.out⟩

set_option maxRecDepth 100000 in
theorem lifted (os : Os) (started : os.Started) (H : Type) (enc : TypeId × Value → H) :
    ReturnsInHanded {} Try.checked os 8 .any (Rows.bitsTurnedSpec.pre6 enc Try.prog Try.f8 Rows.bitsTurnedRow.domain false) (Rows.bitsTurnedSpec.post enc Try.prog Try.f8 false true false false) := by
  refine returnsInHanded_of_change (C := Try.checked) own started (by kernel_rfl) Try.func8
    (ChangeSpec.witness6 (enc := enc) (C := Try.checked) false ⟨#[], #[.int .i64 0, .slice none 0 0], []⟩ 8 (by kernel_rfl) (by kernel_rfl) (by kernel_rfl) (by kernel_rfl)) ?_
  intro W base args ds gs before hval0 hW hcnd _
  have hval : ∀ (j : Nat) t v, Try.f8.params[j]? = some t → args[j]? = some v → Value.okWide Try.prog W .any base t v := hval0
  have hW' := hW
  obtain ⟨p, q, hA0, hV, rfl, hfz, hnd⟩ := hW
  have hA : DataW.TrodAll enc Try.prog W 0 (fun _ => true) true Try.f8.params.toList args.toList ds p := hA0
  rw [Try.params8] at hA hval
  obtain ⟨v0, vs0, d0, ds0, p0, q0, hargs, rfl, rfl, h0, r0'⟩ := trodAll_cons hA
  obtain ⟨v1, vs1, d1, ds1, p1, q1, rfl, rfl, rfl, h1, r1'⟩ := trodAll_cons r0'
  obtain ⟨rfl, rfl, rfl⟩ := trodAll_nil r1'
  obtain rfl : args = #[v0, v1] := by cases args; simp_all
  obtain ⟨rfl, rfl⟩ := trodVars_none hV
  obtain ⟨x0, rfl, rfl, rfl, w0⟩ := open_int Try.underlying3 (hval 0 3 v0 rfl rfl) h0
  have k1 := h1
  have lt1 : ∀ x ∈ p1, x.block < W.heap.size := by obtain ⟨m, hm⟩ := k1; exact DataW.trod_lt m _ _ _ hm
  obtain ⟨a1, n1, c1, l1, rfl, w1⟩ := open_bytes h1 (okWide_slice Try.underlying58 (hval 1 58 v1 rfl rfl))
  clear hA0 hval0
  refine (walk x0 a1 n1 c1 l1 W w0 w1).mono fun e W' ⟨he, bel⟩ => ?_
  subst he
  exact ⟨_, rfl, _, _, _, [], _, [], hW', trodAll_mk1 (shut_bool Try.underlying4 _), (trodAll_cons_mk (shut_int Try.underlying3 w0) (trodAll_cons_mk (Below.trod laidOut (by kernel_rfl) (of_decide_eq_true (by kernel_rfl)) k1 bel lt1) trodAll_mk0)), rfl, bel.frame _, fun h => by cases h⟩

theorem over : Rows.bitsTurnedRow.holds Try.pinned (OpenSpec.ofChange Rows.bitsTurnedSpec) :=
  OpenClaim.holds_of_wide 8 Try.f8 rfl rfl rfl rfl rfl rfl rfl ⟨rfl, rfl, rfl, rfl, rfl⟩ rfl rfl rfl rfl rfl (by kernel_rfl) Try.func8 (by kernel_rfl)
    (of_decide_eq_true (by kernel_rfl)) (by unfold Func.isWrapper; first | (rw [if_pos (by decide +kernel)]; kernel_rfl) | (rw [if_neg (by decide +kernel)]; exact ⟨rfl, rfl⟩))
    (fun os started H enc _ => lifted os started H enc)

/-- the statement -/
theorem proved : Rows.BitsTurnedSaid := over
#print axioms proved
end Go.Proofs.Ytcdihcloihnpkaa.bitsTurned
