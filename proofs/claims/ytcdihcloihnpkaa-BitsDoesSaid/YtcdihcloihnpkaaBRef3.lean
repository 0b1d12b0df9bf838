/-
  The document's own row: Text.
-/
import Derived.Test.YtcdihcloihnpkaaBRef2
namespace Go.Proofs.Ytcdihcloihnpkaa.B
open Go.RowKit
set_option linter.unusedVariables false
set_option linter.unusedSimpArgs false
set_option maxRecDepth 20000

/-- the upper k of eight bits from place i on -/
def top (m i k : Nat) : Nat := m / 2 ^ (i + (8 - k)) % 2 ^ k
theorem top_succ {m i k : Nat} (hk : k < 8) : top m i (k + 1) = top m i k * 2 + (if m.testBit (i + (7 - k)) then 1 else 0) := by
  unfold top
  have e : 8 - k = (7 - k) + 1 := by omega
  have e2 : 8 - (k + 1) = 7 - k := by omega
  rw [e, e2, M.bit_is]
  generalize hp : i + (7 - k) = p
  have e3 : i + (7 - k + 1) = p + 1 := by omega
  rw [e3]
  have h1 : m / 2 ^ (p + 1) = m / 2 ^ p / 2 := by rw [Nat.pow_succ, Nat.div_div_eq_div_mul]
  rw [h1, Nat.pow_succ]
  generalize m / 2 ^ p = x
  have hx : x % (2 ^ k * 2) = x / 2 % 2 ^ k * 2 + x % 2 := by
    have := Nat.mod_mul_left_div_self x (2 ^ k) 2
    have h4 := Nat.div_add_mod x 2
    have h5 : x % (2 ^ k * 2) = x % 2 + 2 * (x / 2 % 2 ^ k) := by rw [Nat.mul_comm, Nat.mod_mul]
    omega
  rw [hx]
  by_cases h : x % 2 = 1
  · simp [h]
  · have : x % 2 = 0 := by omega
    simp [this]
theorem top_lt (m i k : Nat) : top m i k < 2 ^ k := Nat.mod_lt _ (Nat.pow_pos (by omega))
theorem top_all (m j : Nat) : UInt8.ofNat (top m (8 * j) 8) = M.byte m j := by
  unfold top M.byte
  rw [show 8 * j + (8 - 8) = 8 * j by omega, Nat.shiftRight_eq_div_pow]
  apply UInt8.toNat_inj.1
  rw [UInt8.toNat_ofNat', UInt8.toNat_ofNat']
  simp
theorem bytes_succ (j m : Nat) : M.bytes (j + 1) m = M.bytes j m ++ [M.byte m j] := by simp [M.bytes, List.range_succ]
/-- a place behind is not marked -/
theorem has_is {n m k : Nat} (hm : m < 2 ^ n) : has n m (k : Int) = m.testBit k := by
  by_cases h : k < n
  · exact has_bit h
  · unfold has
    rw [Int.toNat_natCast, M.bit_off hm (by omega)]
    simp

theorem wpList_append_byte (w : World) {ops : Array Oper} {rest : List Oper} {o : Oper} {act : Act} {Q : Exit → Act → World → Prop} (hgd : o.guard = none) (s x : Operand)
    (ho : o.op = .call { callee := .builtin .append, args := #[s, x], argTypes := #[58, 58] })
    (B : Nat) (a : Option Addr) (n cap : Nat) (l : List UInt8) (hs : act.eval s = .slice a n cap) (hown : Own 5 w B a n cap (u8s l)) (A : Option Addr) (c : Nat) (k : UInt8) (hx : act.eval x = .slice A 1 c) (hr : Row w A 1 c (u8s [k]))
    (hsum : n + 1 ≤ 1048576) (hB : B ≤ w.heap.size)
    (h : ∀ a' cap' w', Own 5 w' B a' (n + 1) cap' (u8s (l ++ [k])) → Below B w w' → wpList Try.prog ops Q rest (act.put o.dst (.slice a' (n + 1) cap')) w') : wpList Try.prog ops Q (o :: rest) act w := by
  refine wpList_plain hgd fun K hK => ?_
  obtain ⟨a', cap', w', hrun, h2, h3, _⟩ := run_append_u8 w o.type B a n cap l hown A 1 c [k] hr hsum hB
  unfold Oper.wp execOp
  simp only [ho, resolve, invoke, builtin, Sem.run_bind, Sem.run_pure, Result.andThen_ok, List.map_toArray, List.map_cons, List.map_nil, hs, hx, hrun]
  exact hK _ _ (h a' cap' w' h2 h3)
theorem row_byte (w : World) (T : Nat) (h : (T : Int) = ((UInt8.ofNat T).toNat : Int)) : Row (w.alloc (.cells #[.int .u8 (T : Int)] 5)) (some ⟨w.heap.size, 0, none⟩) 1 1 (u8s [UInt8.ofNat T]) := by
  have := row_one w 5 (.int .u8 (T : Int))
  show Row _ _ 1 1 [.int .u8 ((UInt8.ofNat T).toNat : Int)]
  rw [← h]
  exact this

set_option maxHeartbeats 2000000 in
theorem rtext_any (n m : Nat) (w : World) (hn : n ≤ 64) (hm : m < 2 ^ n) : Calls Try.prog 33 #[RV n m] w fun e w' => e = .returned (.string (str (M.txt n m))) ∧ Below w.heap.size w w' := by
  have hnI : (n : Int) ≤ 64 := by omega
  have hw8 : IntKind.u8.wrap (n : Int) = (n : Int) := by rw [IntKind.wrap_u8']; omega
  have HH : ∀ (k : Nat) (b : Bool) (w : World), m.testBit k = b → Calls Try.prog 32 #[RV n m, .int .i64 (k : Int)] w fun e w' => e = .returned (.bool b) ∧ Below w.heap.size w w' := fun k b w hb => by
    have := rhas_any n m (k : Int) w hn
    rw [has_is hm, hb] at this
    exact this
  clear hm
  go_enter Try.func33, Try.ntmps33
  go_wp2_with (refine wpList_box30 rfl _ rfl rfl ?_; intro w1 hw1; have H1 := Lib.hid (hw1 ▸ rat_new w n m); have B1 := Lib.hid (hw1 ▸ bel1 w _ : Below w.heap.size w w1); have hs1 : w1.heap.size = w.heap.size + 1 := (by rw [hw1]; exact size1 _ _); have z0 := H1.out.c0; clear hw1)
  have hc8 : ((UInt8.ofNat n).toNat : Int) = (n : Int) := by rw [UInt8.toNat_ofNat']; omega
  have ho := own_lit 5 w1 (w.heap.size + 1) (u8s [UInt8.ofNat n]) (by omega) (by simp [u8s])
  have e1 : (u8s [UInt8.ofNat n]).toArray = #[.int .u8 (n : Int)] := by
    show #[Value.int .u8 ((UInt8.ofNat n).toNat : Int)] = _
    rw [hc8]
  rw [e1, hs1] at ho
  have ho2 : Own 5 (w1.alloc (.cells #[.int .u8 (n : Int)] 5)) (w.heap.size + 1) (some ⟨w.heap.size + 1, 0, none⟩) (1 + 0) 1 (u8s (UInt8.ofNat n :: M.bytes 0 m)) := ho
  have O3 := Lib.hid ho2
  have H2 := Lib.hid (H1.out.alloc (.cells #[.int .u8 (n : Int)] 5))
  have B2 := Lib.hid (B1.out.alloc B1.out.size (.cells #[.int .u8 (n : Int)] 5))
  clear ho ho2 e1 hc8 z0 H1 B1 hs1
  generalize w1.alloc (.cells #[.int .u8 (n : Int)] 5) = w2 at *
  go_loopw [3, 4] (fun v t wr => ∃ (j cap : Nat) (a : Option Addr), j ≤ (n + 7) / 8 ∧ t = .int .i64 ((8 * j : Nat) : Int) ∧ v = .slice a (1 + j) cap ∧ Own 5 wr (w.heap.size + 1) a (1 + j) cap (u8s (UInt8.ofNat n :: M.bytes j m)) ∧ RAt wr w.heap.size n m ∧ Below w.heap.size w wr) (fun _ t _ => n + 8 - (intOf t).toNat)
  case atStart => exact ⟨0, 1, _, by omega, rfl, rfl, O3.out, H2.out, B2.out⟩
  case round =>
    obtain ⟨j, cap, a, hj, rfl, rfl, ho, hat, hbw⟩ := hrel
    have Ho := Lib.hid ho
    have Hat := Lib.hid hat
    have Hbw := Lib.hid hbw
    have z0 := hat.c0
    clear ho hat hbw O3 H2 B2
    by_cases hlt : 8 * j < n
    · have h8 : 8 * j < 64 := by omega
      generalize hp : 8 * j = p at *
      have Hp := Lib.hid hp
      have hpI : (p : Int) < 64 := by omega
      clear hp
      go_wp2
      go_loopw [5, 6] (fun x t wx => ∃ q : Nat, q ≤ 8 ∧ t = .int .i64 (7 - (q : Int)) ∧ x = .int .u8 ((top m p q : Nat) : Int) ∧ Own 5 wx (w.heap.size + 1) a (1 + j) cap (u8s (UInt8.ofNat n :: M.bytes j m)) ∧ RAt wx w.heap.size n m ∧ Below w.heap.size w wx) (fun _ t _ => (intOf t + 1).toNat)
      case atStart => exact ⟨0, by omega, rfl, by simp [top, Nat.mod_one], Ho.out, Hat.out, Hbw.out⟩
      case round =>
        obtain ⟨q, hq, rfl, rfl, ho, hat, hbw⟩ := hrel
        have Ho2 := Lib.hid ho
        have Hat2 := Lib.hid hat
        have Hbw2 := Lib.hid hbw
        have hsz := hat.lt
        clear ho hat hbw
        by_cases hq8 : q < 8
        · have hTs := top_succ (m := m) (i := p) hq8
          have hTl := top_lt m p q
          have hT128 : top m p q < 128 := Nat.lt_of_lt_of_le hTl (Nat.pow_le_pow_right (by omega) (show q ≤ 7 by omega))
          have hTI : ((top m p q : Nat) : Int) < 128 := by omega
          have hT0 : (0 : Int) ≤ ((top m p q : Nat) : Int) := by omega
          have hq7 : (q : Int) ≤ 7 := by omega
          have hq0 : (0 : Int) ≤ (q : Int) := by omega
          have hge : decide ((0 : Int) ≤ 7 - (q : Int)) = true := by simp; omega
          have HC : ∀ b, m.testBit (p + (7 - q)) = b → ∀ w, Hid (Calls Try.prog 32 #[RV n m, .int .i64 ((p : Int) + (7 - (q : Int)))] w fun e w' => e = .returned (.bool b) ∧ Below w.heap.size w w') := fun b hb w => Lib.hid (by
            have := HH (p + (7 - q)) b w hb
            rw [show ((p + (7 - q) : Nat) : Int) = (p : Int) + (7 - (q : Int)) by omega] at this
            exact this)
          generalize hTv : top m p q = T at *
          clear hTv hTl hT128
          cases hb : m.testBit (p + (7 - q)) with
          | true =>
            have HC2 := HC true hb
            rw [hb, if_pos rfl] at hTs
            have HT := Lib.hid hTs
            clear hb hTs HC HH
            go_wp2_with (first
              | (refine wpList_load30 rfl _ rfl w.heap.size rfl Hat2.out ?_)
              | (go_at_call 32; ((with_reducible refine (HC2 _).out.mono ?_); rintro e w5 ⟨rfl, hb⟩); have Ho3 := Lib.hid (own_below Ho2.out hb (Nat.le_refl _)); have Hat3 := Lib.hid (Hat2.out.below hb hsz); have Hbw3 := Lib.hid (below_up Hbw2.out hb Hbw2.out.size); clear hb))
            go_roundw
            case rel => exact ⟨q + 1, by omega, by first | go_num | (congr 1; omega), by rw [HT.out]; first | go_num | (congr 1; omega), Ho3.out, Hat3.out, Hbw3.out⟩
            case measure => simp [intOf]; omega
          | false =>
            have HC2 := HC false hb
            rw [hb, if_neg (by simp)] at hTs
            have HT := Lib.hid hTs
            clear hb hTs HC HH
            go_wp2_with (first
              | (refine wpList_load30 rfl _ rfl w.heap.size rfl Hat2.out ?_)
              | (go_at_call 32; ((with_reducible refine (HC2 _).out.mono ?_); rintro e w5 ⟨rfl, hb⟩); have Ho3 := Lib.hid (own_below Ho2.out hb (Nat.le_refl _)); have Hat3 := Lib.hid (Hat2.out.below hb hsz); have Hbw3 := Lib.hid (below_up Hbw2.out hb Hbw2.out.size); clear hb))
            go_roundw
            case rel => exact ⟨q + 1, by omega, by first | go_num | (congr 1; omega), by rw [HT.out]; first | go_num | (congr 1; omega), Ho3.out, Hat3.out, Hbw3.out⟩
            case measure => simp [intOf]; omega
        · obtain rfl : q = 8 := by omega
          have hge : decide ((0 : Int) ≤ 7 - ((8 : Nat) : Int)) = false := by decide
          have htp := top_all m j
          rw [Hp.out] at htp
          have htl := top_lt m p 8
          generalize top m p 8 = T at *
          have hTn : (T : Int) = ((UInt8.ofNat T).toNat : Int) := by rw [UInt8.toNat_ofNat']; omega
          have HTn := Lib.hid hTn
          have HB := Lib.hid (bytes_succ j m)
          rw [← htp] at HB
          clear htp htl HH hTn
          go_wp2_with (at_builtin
                       have Ho1 := Lib.hid (own_below Ho2.out (bel1 _ (.cells #[.int .u8 (T : Int)] 5)) (Nat.le_refl _))
                       refine wpList_append_byte _ rfl (.tmp 30) (.tmp 32) rfl (w.heap.size + 1) a (1 + j) cap (UInt8.ofNat n :: M.bytes j m) rfl Ho1.out _ 1 (UInt8.ofNat T) rfl (row_byte _ T HTn.out) (by omega) (by simp; omega) ?_
                       intro a2 cap2 w7 ho2 hb2
                       have Ho3 := Lib.hid ho2
                       have Hb3 := Lib.hid hb2
                       clear ho2 hb2)
          go_roundw
          case rel => exact ⟨j + 1, cap2, a2, by have := Hp.out; omega, by have := Hp.out; first | go_num | (congr 1; omega), by congr 1 <;> omega, by rw [HB.out, ← Nat.add_assoc]; exact Ho3.out, (Hat2.out.alloc _).below Hb3.out (by omega), (Hbw2.out.alloc Hbw2.out.size _).trans (Hb3.out.mono (by omega))⟩
          case measure => simp [intOf]; omega
    · have hje : j = (n + 7) / 8 := by omega
      have hcv := run_string_bytes (own_row Ho.out).1
      rw [hje] at hcv
      have hnl : decide (((8 * j : Nat) : Int) < (n : Int)) = false := by simp; omega
      have hnl2 : decide (8 * j < n) = false := by simp; omega
      clear hlt HH
      subst hje
      go_wp2
      go_ret
      exact ⟨rfl, Hbw.out⟩
end Go.Proofs.Ytcdihcloihnpkaa.B
