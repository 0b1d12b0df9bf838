/-
  Numbers from -2^62 to 2^62 have one text each and are read back; others, and that text with a 0 ahead or a blank behind, have none. CONDITIONS: the listed variables of Go's library read as its text lays them (tied to it).
-/
import Derived.Test.YtaldkdiijflmdaaDoorLain
import Derived.Test.YtaldkdiijflmdaaDoorTie
import Derived.Test.YtaldkdiijflmdaaDoorCards
import Derived.ProofKit
import Derived.OpenShut
import Derived.ShutString
import Derived.Lay
import Derived.SevenTiedAt
import Derived.SizedLaws
namespace Go.Proofs.YtaldkdiijflmdaaDoor.tokenNumbers
open Go.ChangeShapes Go.WideShapes Go.ChangeAt Go.RowKit
open Go.ChangeMaps (open_string shut_string)
set_option linter.unusedVariables false
set_option linter.unusedSimpArgs false
set_option maxRecDepth 20000

/-- a number's digits -/
def digs (v : Nat) : List UInt8 := if h : v < 10 then [UInt8.ofNat (48 + v)] else digs (v / 10) ++ [UInt8.ofNat (48 + v % 10)]
termination_by v
decreasing_by omega

theorem digs_small {v : Nat} (h : v < 10) : digs v = [UInt8.ofNat (48 + v)] := by rw [digs, dif_pos h]
theorem digs_big {v : Nat} (h : ¬ v < 10) : digs v = digs (v / 10) ++ [UInt8.ofNat (48 + v % 10)] := by rw [digs, dif_neg h]

theorem digit_nat (d : Nat) (h : d < 10) : (UInt8.ofNat (48 + d)).toNat = 48 + d := by simp; omega

theorem parse_one (acc d : Nat) (h : d < 10) (hs : acc * 10 + d < 18446744073709551616) (r : List UInt8) :
    Lib.parseUintM 18446744073709551615 acc (UInt8.ofNat (48 + d) :: r) = Lib.parseUintM 18446744073709551615 (acc * 10 + d) r := by
  have hd := digit_nat d h
  rw [Lib.parseUintM]
  rw [if_pos (by rw [hd]; omega), if_neg (by omega), if_neg (by rw [hd]; omega), hd]
  rw [show 48 + d - 48 = d from by omega]

theorem parse_digs : ∀ (n v : Nat), v ≤ n → v < 18446744073709551616 → ∀ r, Lib.parseUintM 18446744073709551615 0 (digs v ++ r) = Lib.parseUintM 18446744073709551615 v r := by
  intro n
  induction n with
  | zero =>
    intro v hv hs r
    rw [digs_small (by omega), List.cons_append, List.nil_append, parse_one 0 v (by omega) (by omega)]
    simp
  | succ n ih =>
    intro v hv hs r
    by_cases h : v < 10
    · rw [digs_small h, List.cons_append, List.nil_append, parse_one 0 v h (by omega)]
      simp
    · rw [digs_big h, List.append_assoc, ih (v / 10) (by omega) (by omega), List.cons_append, List.nil_append, parse_one _ _ (by omega) (by omega)]
      rw [show v / 10 * 10 + v % 10 = v from by omega]

theorem digs_ne : ∀ (n v : Nat), v ≤ n → digs v ≠ [] := by
  intro n v _
  by_cases h : v < 10
  · rw [digs_small h]; simp
  · rw [digs_big h]; simp

theorem digs_head : ∀ (n v : Nat), v ≤ n → ∃ d r, digs v = UInt8.ofNat (48 + d) :: r ∧ d < 10 ∧ (0 < v → 0 < d) ∧ (v = 0 → r = [] ∧ d = 0) := by
  intro n
  induction n with
  | zero => intro v hv; exact ⟨v, [], digs_small (by omega), by omega, by omega, fun e => ⟨rfl, e⟩⟩
  | succ n ih =>
    intro v hv
    by_cases h : v < 10
    · exact ⟨v, [], digs_small h, by omega, by omega, fun e => ⟨rfl, e⟩⟩
    · obtain ⟨d, r, e, h1, h2, h3⟩ := ih (v / 10) (by omega)
      exact ⟨d, r ++ [UInt8.ofNat (48 + v % 10)], by rw [digs_big h, e]; rfl, h1, fun _ => h2 (by omega), fun e => by omega⟩

theorem digs_len : ∀ (k v : Nat), v < 10 ^ (k + 1) → (digs v).length ≤ k + 1 := by
  intro k
  induction k with
  | zero => intro v hv; rw [digs_small (by omega)]; simp
  | succ k ih =>
    intro v hv
    by_cases h : v < 10
    · rw [digs_small h]; simp
    · rw [digs_big h, List.length_append]
      have := ih (v / 10) (by rw [Nat.pow_succ] at hv; omega)
      simp only [List.length_cons, List.length_nil]
      omega

theorem parse_ok {v : Nat} (hs : v < 18446744073709551616) : Lib.parseUintB 64 (digs v) = .ok v := by
  unfold Lib.parseUintB
  rw [if_neg (digs_ne v v (Nat.le_refl _))]
  have := parse_digs v v (Nat.le_refl _) hs []
  rw [List.append_nil] at this
  exact this

theorem parse_blank {v : Nat} (hs : v < 18446744073709551616) (u : Nat) : Lib.parseUintB 64 (digs v ++ [32]) ≠ .ok u := by
  unfold Lib.parseUintB
  rw [if_neg (by simp)]
  have := parse_digs v v (Nat.le_refl _) hs [32]
  show Lib.parseUintM 18446744073709551615 0 (digs v ++ [32]) ≠ .ok u
  rw [this, Lib.parseUintM]
  rw [if_neg (by decide)]
  intro h; cases h

theorem parse_zero {v : Nat} (hs : v < 18446744073709551616) : Lib.parseUintB 64 (48 :: digs v) = .ok v := by
  unfold Lib.parseUintB
  rw [if_neg (by simp)]
  show Lib.parseUintM 18446744073709551615 0 (48 :: digs v) = .ok v
  have h := parse_one 0 0 (by omega) (by omega) (digs v)
  have h2 := parse_digs v v (Nat.le_refl _) hs []
  rw [List.append_nil] at h2
  have e : UInt8.ofNat (48 + 0) = 48 := rfl
  rw [e] at h
  rw [h, Nat.zero_mul, Nat.zero_add, h2]
  rfl

theorem no_minus {v : Nat} {r : List UInt8} : Lib.hasPrefix (digs v ++ r) [45] = false ∧ Lib.trimPrefix (digs v ++ r) [45] = digs v ++ r := by
  obtain ⟨d, x, e, h1, h2, h3⟩ := digs_head v v (Nat.le_refl _)
  have hd := digit_nat d h1
  have hp : Lib.hasPrefix (digs v ++ r) [45] = false := by
    rw [e, List.cons_append]
    unfold Lib.hasPrefix
    have : (45 : UInt8) ≠ UInt8.ofNat (48 + d) := by
      intro e
      have := congrArg UInt8.toNat e
      rw [hd] at this
      have h45 : (45 : UInt8).toNat = 45 := rfl
      omega
    show ((45 : UInt8) == UInt8.ofNat (48 + d) && List.isPrefixOf [] (x ++ r)) = false
    rw [beq_eq_false_iff_ne.2 this]
    rfl
  refine ⟨hp, ?_⟩
  unfold Lib.trimPrefix
  rw [hp]
  rfl

theorem minus (l : List UInt8) : Lib.hasPrefix (45 :: l) [45] = true ∧ Lib.trimPrefix (45 :: l) [45] = l := by
  have hp : Lib.hasPrefix (45 :: l) [45] = true := by simp [Lib.hasPrefix, List.isPrefixOf]
  refine ⟨hp, ?_⟩
  unfold Lib.trimPrefix
  rw [hp]
  rfl

/-- a number's text -/
def text (n : Int) : List UInt8 := if n < 0 then 45 :: digs n.natAbs else digs n.natAbs

theorem head_digs (v : Nat) (r : List UInt8) (h : 0 < v) : (digs v ++ r).getD 0 0 ≠ 48 := by
  obtain ⟨d, x, e, h1, h2, h3⟩ := digs_head v v (Nat.le_refl _)
  rw [e]
  simp only [List.cons_append, List.getD_cons_zero]
  intro e
  have := congrArg UInt8.toNat e
  rw [digit_nat d h1] at this
  have h48 : (48 : UInt8).toNat = 48 := rfl
  have := h2 h
  omega

theorem digs_zero : digs 0 = [48] := digs_small (by omega)

theorem number_text (n : Int) (h1 : -9223372036854775808 ≤ n) (h2 : n ≤ 9223372036854775807) : number (text n) = if 4611686018427387904 < n ∨ n < -4611686018427387904 then none else some n := by
  unfold text
  by_cases hn : n < 0
  · rw [if_pos hn]
    unfold number
    rw [(minus _).1, (minus _).2, parse_ok (by omega)]
    simp only
    have := head_digs n.natAbs [] (by omega)
    rw [List.append_nil] at this
    by_cases hb : 4611686018427387904 < n.natAbs
    · rw [if_pos hb, if_pos (by omega)]
    · rw [if_neg hb, if_neg (fun h => this h.1)]
      have hr : ¬ (4611686018427387904 < n ∨ n < -4611686018427387904) := by omega
      rw [if_neg hr, if_pos trivial]
      congr 1
      omega
  · rw [if_neg hn]
    unfold number
    have h3 := no_minus (v := n.natAbs) (r := [])
    rw [List.append_nil] at h3
    rw [h3.1, h3.2, parse_ok (by omega)]
    simp only
    by_cases hb : 4611686018427387904 < n.natAbs
    · rw [if_pos hb, if_pos (by omega)]
    · have hr : ¬ (4611686018427387904 < n ∨ n < -4611686018427387904) := by omega
      have hq : ¬ ((digs n.natAbs).getD 0 0 = 48 ∧ digs n.natAbs ≠ [48]) := by
        by_cases h0 : n = 0
        · subst h0
          have e : digs (Int.natAbs 0) = [48] := digs_zero
          rw [e]
          simp
        · have := head_digs n.natAbs [] (by omega)
          rw [List.append_nil] at this
          exact fun h => this h.1
      rw [if_neg hb, if_neg hq, if_neg hr]
      simp
      omega

theorem number_zero (n : Int) (h1 : -9223372036854775808 ≤ n) (h2 : n ≤ 9223372036854775807) : number (48 :: text n) = none := by
  have hp : Lib.hasPrefix (48 :: text n) [45] = false := by simp [Lib.hasPrefix, List.isPrefixOf]
  have ht : Lib.trimPrefix (48 :: text n) [45] = 48 :: text n := by unfold Lib.trimPrefix; rw [hp]; rfl
  unfold number
  rw [ht]
  unfold text
  by_cases hn : n < 0
  · rw [if_pos hn]
    have : ∀ u, Lib.parseUintB 64 (48 :: 45 :: digs n.natAbs) ≠ .ok u := by
      intro u
      unfold Lib.parseUintB
      rw [if_neg (by simp)]
      show Lib.parseUintM 18446744073709551615 0 (48 :: 45 :: digs n.natAbs) ≠ .ok u
      rw [Lib.parseUintM, if_pos (by decide), if_neg (by omega), if_neg (by decide), Lib.parseUintM, if_neg (by decide)]
      intro h; cases h
    cases hp : Lib.parseUintB 64 (48 :: 45 :: digs n.natAbs) with
    | ok u => exact absurd hp (this u)
    | range => rfl
    | _ => rfl
  · rw [if_neg hn, parse_zero (by omega)]
    simp only
    by_cases hb : 4611686018427387904 < n.natAbs
    · rw [if_pos hb]
    · rw [if_neg hb, if_pos ⟨by simp, by have := digs_ne n.natAbs n.natAbs (Nat.le_refl _); simpa using this⟩]

theorem number_blank (n : Int) (h1 : -9223372036854775808 ≤ n) (h2 : n ≤ 9223372036854775807) : number (text n ++ [32]) = none := by
  have key : Lib.trimPrefix (text n ++ [32]) [45] = digs n.natAbs ++ [32] := by
    unfold text
    by_cases hn : n < 0
    · rw [if_pos hn, List.cons_append]; exact (minus _).2
    · rw [if_neg hn]; exact no_minus.2
  unfold number
  rw [key]
  have := parse_blank (v := n.natAbs) (by omega)
  cases hp : Lib.parseUintB 64 (digs n.natAbs ++ [32]) with
  | ok u => exact absurd hp (this u)
  | range => rfl
  | _ => rfl

theorem row_one (w : World) (c : UInt8) (v : Int) (hv : (c.toNat : Int) = v) : (convert 33 9 (.slice (some ⟨w.heap.size, 0, none⟩) 1 1)).run Tryd.prog (w.alloc (.cells #[.int .u8 v] 5)) = .ok (.string (str [c])) (w.alloc (.cells #[.int .u8 v] 5)) :=
  run_string_bytes (row_u8_new w c v hv)

theorem walk (a0 : Int) (w0 : (Lit.int .i64 a0).wf = true) (w : World) (hL : Lain w) :
    Calls Tryd.prog 6 #[.int .i64 a0] w fun e w' => e = .returned (.bool true) ∧ Below w.heap.size w w' := by
  have HA := Lib.hid (awake_any w hL)
  have HL := Lib.hid hL
  clear hL
  have r1 : -9223372036854775808 ≤ a0 ∧ a0 ≤ 9223372036854775807 := by simpa [Lit.wf, IntKind.min, IntKind.max, IntKind.signed, IntKind.bits] using w0
  obtain ⟨r10, r11⟩ := r1
  clear w0
  obtain ⟨N, hN⟩ : ∃ N, a0.natAbs = N := ⟨_, rfl⟩
  have hN2 : (N : Int) ≤ 9223372036854775808 := by omega
  by_cases hneg : a0 < 0
  · obtain ⟨P, hP⟩ : ∃ P : Nat, a0 + 18446744073709551616 = (P : Int) := ⟨(a0 + 18446744073709551616).toNat, by omega⟩
    have e1 : IntKind.u64.wrap a0 = (P : Int) := by rw [IntKind.wrap_u64]; omega
    have e2 : IntKind.u64.wrap (-(P : Int)) = (N : Int) := by rw [IntKind.wrap_u64]; omega
    have HN := Lib.hid hN
    clear hN hP
    go_enter Tryd.func6, Tryd.ntmps6
    go_wp2_with fail
    refine HA.out.mono ?_
    rintro e w2 ⟨rfl, hb⟩
    have HB1 := Lib.hid hb
    clear hb
    go_wp2_with fail
    have HDl : Hid ((digs N).length ≤ 20) := digs_len 19 N (by omega)
    go_loopw [3, 4] (fun t u wr => ∃ (T : ByteArray) (v : Nat), t = .string T ∧ u = .int .u64 (v : Int) ∧ digs v ++ T.data.toList = digs N ∧ v ≤ N ∧ Below w.heap.size w wr) (fun _ u _ => (intOf u).toNat + 1)
    case atStart => exact ⟨⟨#[]⟩, N, rfl, rfl, by simp, by omega, HB1.out⟩
    case round =>
      obtain ⟨T, v, rfl, rfl, hT, hv, hb⟩ := hrel
      have HT := Lib.hid hT
      have HB2 := Lib.hid hb
      have hTs : T.size ≤ 20 := by
        have h1 := HDl.out
        rw [← HT.out, List.length_append, ← Lib.size_eq] at h1
        omega
      have hTI : (T.size : Int) ≤ 20 := by omega
      have hvI : (v : Int) ≤ 9223372036854775808 := by omega
      obtain ⟨d, hd⟩ : ∃ d, v % 10 = d := ⟨_, rfl⟩
      obtain ⟨q, hq⟩ : ∃ q, v / 10 = q := ⟨_, rfl⟩
      have d1 : (v : Int) % 10 = (d : Int) := by omega
      have d2 : (v : Int).tmod 10 = (d : Int) := by rw [Int.tmod_eq_emod_of_nonneg (by omega)]; exact d1
      have q1 : (v : Int) / 10 = (q : Int) := by omega
      have q2 : (v : Int).tdiv 10 = (q : Int) := by rw [Int.tdiv_eq_ediv_of_nonneg (by omega)]; exact q1
      have d3 : (d : Int) < 10 := by omega
      have d4 : (0 : Int) ≤ (d : Int) := by omega
      have d5 : IntKind.u64.wrap (48 + (d : Int)) = 48 + (d : Int) := by rw [IntKind.wrap_u64]; omega
      have d6 : IntKind.u8.wrap (48 + (d : Int)) = 48 + (d : Int) := by rw [IntKind.wrap_u8]; omega
      have q3 : (0 : Int) ≤ (q : Int) := by omega
      have q4 : (q : Int) ≤ 9223372036854775808 := by omega
      have hcv := row_one wr (UInt8.ofNat (48 + d)) (48 + (d : Int)) (by rw [digit_nat d (by omega)]; omega)
      have hSd : (str [UInt8.ofNat (48 + d)]).data.toList = [UInt8.ofNat (48 + d)] := rfl
      have hSs : ((str [UInt8.ofNat (48 + d)]).size : Int) = 1 := rfl
      obtain ⟨S, hS⟩ : ∃ S, str [UInt8.ofNat (48 + d)] = S := ⟨_, rfl⟩
      rw [hS] at hcv hSd hSs
      have HSd := Lib.hid hSd
      have HBa : Hid (Below w.heap.size w (wr.alloc (.cells #[.int .u8 (48 + (d : Int))] 5))) := HB2.out.alloc HB2.out.size _
      have HV := Lib.hid hv
      clear hS hSd hT hb hv hTs
      by_cases h10 : v < 10
      · have HTx : Hid ((S ++ T).data.toList = digs N) := by
          rw [← HT.out, digs_small h10]
          have e : v = d := by omega
          rw [e]
          simp [HSd.out]
          exact Lib.hid trivial
        have z1 : (v : Int) / 10 = 0 := by omega
        have z2 : (v : Int).tdiv 10 = 0 := by rw [Int.tdiv_eq_ediv_of_nonneg (by omega)]; exact z1
        have HTs : Hid ((S ++ T).size ≤ 20) := by
          have := HDl.out
          rw [← HTx.out, ← Lib.size_eq] at this
          exact Lib.hid this
        have hsS : S.size = 1 := by omega
        have hST : (S ++ T).size = S.size + T.size := ByteArray.size_append
        clear hd hq q1 q2 q3 q4 h10
        have hEl : ((⟨#[45]⟩ ++ (S ++ T)) : ByteArray).data.toList = text a0 := by
          unfold text
          rw [if_pos (by omega : a0 < 0), HN.out, ← HTx.out]
          simp
        have hEs : ((⟨#[45]⟩ ++ (S ++ T)) : ByteArray).size ≤ 21 := by
          have := HTs.out
          rw [ByteArray.size_append]; have h1 : (⟨#[45]⟩ : ByteArray).size = 1 := rfl; omega
        have hEI : (((⟨#[45]⟩ ++ (S ++ T)) : ByteArray).size : Int) ≤ 21 := by omega
        have h0l : (⟨#[48]⟩ ++ (⟨#[45]⟩ ++ (S ++ T)) : ByteArray).data.toList = 48 :: text a0 := by rw [← hEl]; simp
        have h0s : (⟨#[48]⟩ ++ (⟨#[45]⟩ ++ (S ++ T)) : ByteArray).size ≤ 22 := by rw [ByteArray.size_append]; have : (⟨#[48]⟩ : ByteArray).size = 1 := rfl; omega
        have hbl : ((⟨#[45]⟩ ++ (S ++ T)) ++ ⟨#[32]⟩ : ByteArray).data.toList = text a0 ++ [32] := by rw [← hEl]; simp
        have hbs : ((⟨#[45]⟩ ++ (S ++ T)) ++ ⟨#[32]⟩ : ByteArray).size ≤ 22 := by rw [ByteArray.size_append]; have : (⟨#[32]⟩ : ByteArray).size = 1 := rfl; omega
        have HN0 := Lib.hid (fun w1 (hb : Below w.heap.size w w1) => number_no (⟨#[48]⟩ ++ (⟨#[45]⟩ ++ (S ++ T))) w1 (HL.out.below hb (Nat.le_refl _)).errs (by omega) (by rw [h0l]; exact number_zero a0 r10 r11))
        have HNb := Lib.hid (fun w1 (hb : Below w.heap.size w w1) => number_no ((⟨#[45]⟩ ++ (S ++ T)) ++ ⟨#[32]⟩) w1 (HL.out.below hb (Nat.le_refl _)).errs (by omega) (by rw [hbl]; exact number_blank a0 r10 r11))
        have hnt := number_text a0 r10 r11
        rw [← hEl] at hnt
        have heq : (a0 == a0) = true := by simp
        
        by_cases hout : 4611686018427387904 < a0 ∨ a0 < -4611686018427387904
        · rw [if_pos hout] at hnt
          have HNn := Lib.hid (fun w1 (hb : Below w.heap.size w w1) => number_no (⟨#[45]⟩ ++ (S ++ T)) w1 (HL.out.below hb (Nat.le_refl _)).errs (by omega) hnt)
          clear hEl hEs h0l h0s hbl hbs hnt
          have ho : a0 < -4611686018427387904 := by omega
          have ho2 : a0 ≤ 4611686018427387904 := by omega
          clear hout
          go_wp2_with fail
          refine (HNn.out _ HBa.out).mono ?_
          rintro e w3 ⟨rfl, hb⟩
          have HB3 : Hid (Below w.heap.size w w3) := HBa.out.trans (hb.mono HBa.out.size)
          clear hb
          go_wp2_with fail
          go_ret
          exact ⟨rfl, HB3.out⟩
        · rw [if_neg hout] at hnt
          have HNy := Lib.hid (fun w1 (hb : Below w.heap.size w w1) => number_yes (⟨#[45]⟩ ++ (S ++ T)) w1 a0 (HL.out.below hb (Nat.le_refl _)).errs (by omega) hnt)
          have o1 : a0 ≤ 4611686018427387904 := by omega
          have o2 : -4611686018427387904 ≤ a0 := by omega
          clear hEl hEs h0l h0s hbl hbs hnt hout
          go_wp2_with fail
          refine (HNy.out _ HBa.out).mono ?_
          rintro e w3 ⟨rfl, hb⟩
          have HB3 : Hid (Below w.heap.size w w3) := HBa.out.trans (hb.mono HBa.out.size)
          clear hb
          go_wp2_with fail
          refine (HN0.out _ HB3.out).mono ?_
          rintro e w4 ⟨rfl, hb⟩
          have HB4 : Hid (Below w.heap.size w w4) := HB3.out.trans (hb.mono HB3.out.size)
          clear hb
          go_wp2_with fail
          refine (HNb.out _ HB4.out).mono ?_
          rintro e w5 ⟨rfl, hb⟩
          have HB5 : Hid (Below w.heap.size w w5) := HB4.out.trans (hb.mono HB4.out.size)
          clear hb
          go_wp2_with fail
          go_ret
          exact ⟨rfl, HB5.out⟩
      · have HTx : Hid (digs q ++ (S ++ T).data.toList = digs N) := by
          rw [← HT.out, digs_big h10, hd, hq]
          simp [HSd.out]
          exact Lib.hid trivial
        have hq0 : ((q : Int) == 0) = false := int_neq (k := 0) (by omega)
        have HQ : Hid (q ≤ N ∧ q < v) := by have := HV.out; exact Lib.hid ⟨by omega, by omega⟩
        clear hd hq h10
        go_wp2_with fail
        go_roundw
        case rel => exact ⟨_, q, rfl, rfl, HTx.out, HQ.out.1, HBa.out⟩
        case measure => simp [intOf]; have := HQ.out.2; omega
  · have e1 : IntKind.u64.wrap a0 = (N : Int) := by rw [IntKind.wrap_u64]; omega
    have g0 : (0 : Int) ≤ a0 := by omega
    have HN := Lib.hid hN
    clear hN
    go_enter Tryd.func6, Tryd.ntmps6
    go_wp2_with fail
    refine HA.out.mono ?_
    rintro e w2 ⟨rfl, hb⟩
    have HB1 := Lib.hid hb
    clear hb
    go_wp2_with fail
    have HDl : Hid ((digs N).length ≤ 20) := digs_len 19 N (by omega)
    go_loopw [3, 4] (fun t u wr => ∃ (T : ByteArray) (v : Nat), t = .string T ∧ u = .int .u64 (v : Int) ∧ digs v ++ T.data.toList = digs N ∧ v ≤ N ∧ Below w.heap.size w wr) (fun _ u _ => (intOf u).toNat + 1)
    case atStart => exact ⟨⟨#[]⟩, N, rfl, rfl, by simp, by omega, HB1.out⟩
    case round =>
      obtain ⟨T, v, rfl, rfl, hT, hv, hb⟩ := hrel
      have HT := Lib.hid hT
      have HB2 := Lib.hid hb
      have hTs : T.size ≤ 20 := by
        have h1 := HDl.out
        rw [← HT.out, List.length_append, ← Lib.size_eq] at h1
        omega
      have hTI : (T.size : Int) ≤ 20 := by omega
      have hvI : (v : Int) ≤ 9223372036854775808 := by omega
      obtain ⟨d, hd⟩ : ∃ d, v % 10 = d := ⟨_, rfl⟩
      obtain ⟨q, hq⟩ : ∃ q, v / 10 = q := ⟨_, rfl⟩
      have d1 : (v : Int) % 10 = (d : Int) := by omega
      have d2 : (v : Int).tmod 10 = (d : Int) := by rw [Int.tmod_eq_emod_of_nonneg (by omega)]; exact d1
      have q1 : (v : Int) / 10 = (q : Int) := by omega
      have q2 : (v : Int).tdiv 10 = (q : Int) := by rw [Int.tdiv_eq_ediv_of_nonneg (by omega)]; exact q1
      have d3 : (d : Int) < 10 := by omega
      have d4 : (0 : Int) ≤ (d : Int) := by omega
      have d5 : IntKind.u64.wrap (48 + (d : Int)) = 48 + (d : Int) := by rw [IntKind.wrap_u64]; omega
      have d6 : IntKind.u8.wrap (48 + (d : Int)) = 48 + (d : Int) := by rw [IntKind.wrap_u8]; omega
      have q3 : (0 : Int) ≤ (q : Int) := by omega
      have q4 : (q : Int) ≤ 9223372036854775808 := by omega
      have hcv := row_one wr (UInt8.ofNat (48 + d)) (48 + (d : Int)) (by rw [digit_nat d (by omega)]; omega)
      have hSd : (str [UInt8.ofNat (48 + d)]).data.toList = [UInt8.ofNat (48 + d)] := rfl
      have hSs : ((str [UInt8.ofNat (48 + d)]).size : Int) = 1 := rfl
      obtain ⟨S, hS⟩ : ∃ S, str [UInt8.ofNat (48 + d)] = S := ⟨_, rfl⟩
      rw [hS] at hcv hSd hSs
      have HSd := Lib.hid hSd
      have HBa : Hid (Below w.heap.size w (wr.alloc (.cells #[.int .u8 (48 + (d : Int))] 5))) := HB2.out.alloc HB2.out.size _
      have HV := Lib.hid hv
      clear hS hSd hT hb hv hTs
      by_cases h10 : v < 10
      · have HTx : Hid ((S ++ T).data.toList = digs N) := by
          rw [← HT.out, digs_small h10]
          have e : v = d := by omega
          rw [e]
          simp [HSd.out]
          exact Lib.hid trivial
        have z1 : (v : Int) / 10 = 0 := by omega
        have z2 : (v : Int).tdiv 10 = 0 := by rw [Int.tdiv_eq_ediv_of_nonneg (by omega)]; exact z1
        have HTs : Hid ((S ++ T).size ≤ 20) := by
          have := HDl.out
          rw [← HTx.out, ← Lib.size_eq] at this
          exact Lib.hid this
        have hsS : S.size = 1 := by omega
        have hST : (S ++ T).size = S.size + T.size := ByteArray.size_append
        clear hd hq q1 q2 q3 q4 h10
        have hEl : ((S ++ T) : ByteArray).data.toList = text a0 := by
          unfold text
          rw [if_neg (by omega : ¬ a0 < 0), HN.out, ← HTx.out]
        have hEs : ((S ++ T) : ByteArray).size ≤ 21 := by
          have := HTs.out
          omega
        have hEI : (((S ++ T) : ByteArray).size : Int) ≤ 21 := by omega
        have h0l : (⟨#[48]⟩ ++ (S ++ T) : ByteArray).data.toList = 48 :: text a0 := by rw [← hEl]; simp
        have h0s : (⟨#[48]⟩ ++ (S ++ T) : ByteArray).size ≤ 22 := by rw [ByteArray.size_append]; have : (⟨#[48]⟩ : ByteArray).size = 1 := rfl; omega
        have hbl : ((S ++ T) ++ ⟨#[32]⟩ : ByteArray).data.toList = text a0 ++ [32] := by rw [← hEl]; simp
        have hbs : ((S ++ T) ++ ⟨#[32]⟩ : ByteArray).size ≤ 22 := by rw [ByteArray.size_append]; have : (⟨#[32]⟩ : ByteArray).size = 1 := rfl; omega
        have HN0 := Lib.hid (fun w1 (hb : Below w.heap.size w w1) => number_no (⟨#[48]⟩ ++ (S ++ T)) w1 (HL.out.below hb (Nat.le_refl _)).errs (by omega) (by rw [h0l]; exact number_zero a0 r10 r11))
        have HNb := Lib.hid (fun w1 (hb : Below w.heap.size w w1) => number_no ((S ++ T) ++ ⟨#[32]⟩) w1 (HL.out.below hb (Nat.le_refl _)).errs (by omega) (by rw [hbl]; exact number_blank a0 r10 r11))
        have hnt := number_text a0 r10 r11
        rw [← hEl] at hnt
        have heq : (a0 == a0) = true := by simp
        
        by_cases hout : 4611686018427387904 < a0 ∨ a0 < -4611686018427387904
        · rw [if_pos hout] at hnt
          have HNn := Lib.hid (fun w1 (hb : Below w.heap.size w w1) => number_no (S ++ T) w1 (HL.out.below hb (Nat.le_refl _)).errs (by omega) hnt)
          clear hEl hEs h0l h0s hbl hbs hnt
          have ho : 4611686018427387904 < a0 := by omega
          clear hout
          go_wp2_with fail
          refine (HNn.out _ HBa.out).mono ?_
          rintro e w3 ⟨rfl, hb⟩
          have HB3 : Hid (Below w.heap.size w w3) := HBa.out.trans (hb.mono HBa.out.size)
          clear hb
          go_wp2_with fail
          go_ret
          exact ⟨rfl, HB3.out⟩
        · rw [if_neg hout] at hnt
          have HNy := Lib.hid (fun w1 (hb : Below w.heap.size w w1) => number_yes (S ++ T) w1 a0 (HL.out.below hb (Nat.le_refl _)).errs (by omega) hnt)
          have o1 : a0 ≤ 4611686018427387904 := by omega
          have o2 : -4611686018427387904 ≤ a0 := by omega
          clear hEl hEs h0l h0s hbl hbs hnt hout
          go_wp2_with fail
          refine (HNy.out _ HBa.out).mono ?_
          rintro e w3 ⟨rfl, hb⟩
          have HB3 : Hid (Below w.heap.size w w3) := HBa.out.trans (hb.mono HBa.out.size)
          clear hb
          go_wp2_with fail
          refine (HN0.out _ HB3.out).mono ?_
          rintro e w4 ⟨rfl, hb⟩
          have HB4 : Hid (Below w.heap.size w w4) := HB3.out.trans (hb.mono HB3.out.size)
          clear hb
          go_wp2_with fail
          refine (HNb.out _ HB4.out).mono ?_
          rintro e w5 ⟨rfl, hb⟩
          have HB5 : Hid (Below w.heap.size w w5) := HB4.out.trans (hb.mono HB4.out.size)
          clear hb
          go_wp2_with fail
          go_ret
          exact ⟨rfl, HB5.out⟩
      · have HTx : Hid (digs q ++ (S ++ T).data.toList = digs N) := by
          rw [← HT.out, digs_big h10, hd, hq]
          simp [HSd.out]
          exact Lib.hid trivial
        have hq0 : ((q : Int) == 0) = false := int_neq (k := 0) (by omega)
        have HQ : Hid (q ≤ N ∧ q < v) := by have := HV.out; exact Lib.hid ⟨by omega, by omega⟩
        clear hd hq h10
        go_wp2_with fail
        go_roundw
        case rel => exact ⟨_, q, rfl, rfl, HTx.out, HQ.out.1, HBa.out⟩
        case measure => simp [intOf]; have := HQ.out.2; omega


theorem own : ownKnob Tryd.prog.godebug = none := by kernel_rfl

set_option maxRecDepth 100000 in
theorem lifted (os : Os) (started : os.Started) (H : Type) (enc : TypeId × Value → H) :
    ReturnsInHanded {} Tryd.checked os 6 .any (fun w args => (Rows.tokenNumbersSpec.pre enc Tryd.prog Tryd.f6 [] false w args ∧ laidMetH Tryd.prog laidL w) ∧ sizedMet enc Tryd.prog Tryd.f6 (OpenSpec.ofChange Rows.tokenNumbersSpec) false w args)
      (Rows.tokenNumbersSpec.post enc Tryd.prog Tryd.f6 false true false false) := by
  refine returnsInHanded_of_change_and (C := Tryd.checked) (X := fun w _ => laidMetH Tryd.prog laidL w) (fun _ _ _ hh h => h.of_heap hh) own started (by kernel_rfl) Tryd.func6
    (ChangeSpec.witness_shaped (enc := enc) (C := Tryd.checked) (os := os) (X := fun w _ => laidMetH Tryd.prog laidL w) false (World.laidAll Tryd.prog os laidL) #[.int .i64 0] 8 (World.laidAll_os _ _ _)
      (World.shaped_of_ZipB (by kernel_rfl) (by kernel_rfl)) (by kernel_rfl) (by kernel_rfl) (by kernel_rfl)
      (by rw [MakeChecks.laidMetH_plain _ _ _ (by kernel_rfl)]; exact laidMet_laidAll _ (by kernel_rfl) (by kernel_rfl))) ?_
  intro W base args ds gs before hval0 hW _ hsz hL _
  have hval : ∀ (j : Nat) t v, Tryd.f6.params[j]? = some t → args[j]? = some v → Value.okWide Tryd.prog W .any base t v := hval0
  have hW' := hW
  obtain ⟨p, q, hA0, hV, rfl, _, _⟩ := hW
  have hA : DataW.TrodAll enc Tryd.prog W 0 (fun _ => true) true Tryd.f6.params.toList args.toList ds p := hA0
  rw [Tryd.params6] at hA hval
  obtain ⟨v0, vs0, d0, ds0, p0, q0, hargs, rfl, rfl, h0, r0⟩ := trodAll_cons hA
  obtain ⟨rfl, rfl, rfl⟩ := trodAll_nil r0
  obtain rfl : args = #[v0] := by cases args; simp_all
  obtain ⟨rfl, rfl⟩ := trodVars_none hV
  obtain ⟨a0, rfl, rfl, rfl, w0⟩ := open_int Tryd.underlying2 (hval 0 2 v0 rfl rfl) h0
  clear hA0 hval0
  simp only [List.append_nil] at hW'
  refine (walk a0 w0 W (lain_of hL)).mono fun e W' ⟨he, hb⟩ => ?_
  subst he
  exact ⟨_, rfl, _, _, _, [], [], [], hW', (trodAll_cons_mk (shut_bool Tryd.underlying4 _) trodAll_mk0), (trodAll_cons_mk (shut_int Tryd.underlying2 w0) trodAll_mk0), rfl, hb.frame _, fun h => by cases h⟩

theorem over : Rows.TokenNumbersSaid :=
  OpenClaim.holds_of_wide 6 Tryd.f6 rfl rfl rfl rfl rfl rfl rfl ⟨rfl, rfl, rfl, rfl, rfl⟩ rfl rfl rfl rfl rfl (by kernel_rfl) Tryd.func6 (by kernel_rfl)
    (of_decide_eq_true (by kernel_rfl)) (by unfold Func.isWrapper; first | (rw [if_pos (by decide +kernel)]; kernel_rfl) | (rw [if_neg (by decide +kernel)]; exact ⟨rfl, rfl⟩))
    (fun os started H enc _ => lifted os started H enc)

theorem proved : Rows.TokenNumbersCardSaid :=
  Claim7.holds_tied_plain_at .later [] [.data, .data, .data, .data, .sentinel, .sentinel, .pinned] true (true, "04bf3c768bf736b8fd82327442cdcf8f6d68ad994148245a372f4f7fa7294dad") true
    over (fun _ h => by cases h) (by kernel_rfl) (fun _ h => by cases h) tokenNumbers_row_tie rfl ⟨rfl, rfl⟩ (by kernel_rfl) rfl
    (fun f fn hf hfn => by
      obtain rfl : f = 6 := Option.some.inj ((show Tryd.prog.funcNamed "seisin/seisinlaw03.TokenNumbers" = some 6 by kernel_rfl).symm.trans hf) |>.symm
      obtain rfl : fn = Tryd.f6 := (Option.some.inj (Tryd.func6.symm.trans hfn)).symm
      exact ⟨by kernel_rfl, fun j t ht => by
        rw [Tryd.params6] at ht
        have hm : t ∈ [2] := by simpa using Array.mem_of_getElem? ht
        have hall : ([2].all fun u => !Tryd.prog.wantsStandIn u) = true := by kernel_rfl
        exact (show Tryd.prog.wantsStandIn t = false by simpa using List.all_eq_true.1 hall t hm)⟩)
    (by kernel_rfl)
#print axioms proved
end Go.Proofs.YtaldkdiijflmdaaDoor.tokenNumbers
