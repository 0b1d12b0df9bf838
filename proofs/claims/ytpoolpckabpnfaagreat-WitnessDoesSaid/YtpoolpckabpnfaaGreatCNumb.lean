/-
  Number answers a number's bytes. CONDITIONS: none (any number of 64 bits).
-/
import Derived.Test.YtpoolpckabpnfaaGreatCEncs
namespace Go.Proofs.YtpoolpckabpnfaaGreat.C
open Go.RowKit
set_option linter.unusedVariables false
set_option linter.unusedSimpArgs false
set_option maxRecDepth 20000

theorem wpList_append_u8 (w : World) {ops : Array Oper} {rest : List Oper} {o : Oper} {act : Act} {Q : Exit → Act → World → Prop} (hgd : o.guard = none) (s x : Operand)
    (ho : o.op = .call { callee := .builtin .append, args := #[s, x], argTypes := #[50, 50] })
    (B : Nat) (a : Option Addr) (n cap : Nat) (l : List UInt8) (hs : act.eval s = .slice a n cap) (hown : Own 5 w B a n cap (u8s l))
    (A : Option Addr) (m c : Nat) (y : List UInt8) (hx : act.eval x = .slice A m c) (hr : Row w A m c (u8s y)) (k : Nat) (hk : n + m = k) (hsum : k ≤ 1048576) (hB : B ≤ w.heap.size)
    (h : ∀ a' cap' w', Own 5 w' B a' k cap' (u8s (l ++ y)) → Below B w w' → wpList Tryz.prog ops Q rest (act.put o.dst (.slice a' k cap')) w') : wpList Tryz.prog ops Q (o :: rest) act w := by
  subst hk
  refine wpList_plain hgd fun K hK => ?_
  obtain ⟨a', cap', w', hrun, h2, h3, _, _⟩ := run_append_u8 w o.type B a n cap l hown A m c y hr hsum hB
  unfold Oper.wp execOp
  simp only [ho, resolve, invoke, builtin, Sem.run_bind, Sem.run_pure, Result.andThen_ok, List.map_toArray, List.map_cons, List.map_nil, hs, hx, hrun]
  exact hK _ _ (h a' cap' w' h2 h3)

theorem row_lit (w : World) (e : TypeId) (vs : List Value) (hn : vs.length ≤ 1000) : Row (w.alloc (.cells vs.toArray e)) (some ⟨w.heap.size, 0, none⟩) vs.length vs.length vs := by
  refine ⟨rfl, Nat.le_refl _, by simp [maxLen]; omega, .inr ⟨w.heap.size, 0, rfl, by simp, fun i hi => ?_⟩⟩
  rw [World.cell?_alloc_mark]
  simp

theorem row_byte (w : World) (x : Int) (c : UInt8) (hx : x = (c.toNat : Int)) : Row (w.alloc (.cells #[.int .u8 x] 5)) (some ⟨w.heap.size, 0, none⟩) 1 1 (u8s [c]) := by
  subst hx
  exact row_lit w 5 (u8s [c]) (by simp [u8s])

theorem or_128 (u : Nat) : bits BinOp.or IntKind.u8 (IntKind.u8.wrap (u : Int)) 128 = (((UInt8.ofNat (u % 128 + 128)).toNat : Nat) : Int) := by
  have h : ∀ j : Fin 256, bits BinOp.or IntKind.u8 ((j.val : Nat) : Int) 128 = (((UInt8.ofNat (j.val % 128 + 128)).toNat : Nat) : Int) := by decide +kernel
  have e : IntKind.u8.wrap (u : Int) = ((u % 256 : Nat) : Int) := by
    simp [IntKind.wrap, IntKind.bits, IntKind.signed]
  rw [e]
  have := h ⟨u % 256, Nat.mod_lt _ (by omega)⟩
  simp only at this
  rw [this, show u % 256 % 128 = u % 128 from by omega]

theorem wrap_u8 (u : Nat) (h : u < 128) : IntKind.u8.wrap (u : Int) = (((UInt8.ofNat u).toNat : Nat) : Int) := by
  rw [M.toNat_ofNat (by omega)]
  simp [IntKind.wrap, IntKind.bits, IntKind.signed]
  omega

/-- what is known at the head of the loop -/
def VInv (n : Int) (k U : Nat) (acc : List UInt8) : Prop := k ≤ 9 ∧ U < 2 ^ (64 - 7 * k) ∧ M.num n = acc ++ M.vb (9 - k) U

theorem vinv_start {n : Int} (h : M.fits n) : VInv n 0 (M.zig n) [] := ⟨by omega, M.zig_lt h, rfl⟩

theorem vinv_on {n : Int} {k U : Nat} {acc : List UInt8} (h : VInv n k U acc) (hU : ¬ U < 128) : VInv n (k + 1) (U / 128) (acc ++ [UInt8.ofNat (U % 128 + 128)]) := by
  obtain ⟨h1, h2, h3⟩ := h
  have hk : k < 9 := by
    rcases Nat.lt_or_ge k 9 with h | h
    · exact h
    · have e : k = 9 := by omega
      subst e
      have : 2 ^ (64 - 7 * 9) = 2 := by decide
      omega
  refine ⟨by omega, ?_, ?_⟩
  · have : 2 ^ (64 - 7 * k) = 128 * 2 ^ (64 - 7 * (k + 1)) := by
      rw [show 64 - 7 * k = 7 + (64 - 7 * (k + 1)) from by omega, Nat.pow_add]
    omega
  · rw [h3, show 9 - k = (9 - (k + 1)) + 1 from by omega]
    conv => lhs; unfold M.vb
    rw [if_neg hU]
    simp

theorem vinv_last {n : Int} {k U : Nat} {acc : List UInt8} (h : VInv n k U acc) (hU : U < 128) : M.num n = acc ++ [UInt8.ofNat U] := by
  obtain ⟨h1, h2, h3⟩ := h
  rw [h3]
  cases hk : 9 - k with
  | zero => rfl
  | succ f =>
    unfold M.vb
    rw [if_pos hU]

theorem zig_neg {n : Int} (h : M.fits n) (h0 : n < 0) : bits BinOp.xor IntKind.u64 IntKind.u64.max (IntKind.u64.wrap (IntKind.u64.wrap n * 2)) = (M.zig n : Int) := by
  obtain ⟨h1, h2⟩ := h
  have e1 : IntKind.u64.wrap (IntKind.u64.wrap n * 2) = ((2 * n + 18446744073709551616).toNat : Int) := by
    rw [IntKind.wrap_u64, IntKind.wrap_u64]; omega
  have e2 : IntKind.u64.max = ((18446744073709551615 : Nat) : Int) := by decide +kernel
  rw [e1, e2, bits_xor_u64_nat _ _ (by omega) (by omega)]
  have hx : 18446744073709551615 ^^^ (2 * n + 18446744073709551616).toNat = 18446744073709551615 - (2 * n + 18446744073709551616).toNat := by
    generalize hy : (2 * n + 18446744073709551616).toNat = y
    have hy2 : y < 18446744073709551616 := by omega
    have h := congrArg BitVec.toNat (BitVec.allOnes_xor (x := BitVec.ofNat 64 y))
    rw [BitVec.toNat_xor, BitVec.toNat_not, BitVec.toNat_allOnes, BitVec.toNat_ofNat, Nat.mod_eq_of_lt hy2] at h
    exact h
  rw [hx]
  unfold M.zig
  rw [if_pos h0]
  omega

theorem zig_pos {n : Int} (h0 : ¬ n < 0) : n * 2 = (M.zig n : Int) := by
  unfold M.zig
  rw [if_neg h0]
  omega

set_option maxHeartbeats 1000000 in
theorem number2_any (n : Int) (w : World) (hn : M.fits n) :
    Calls Tryz.prog 103 #[.int .i64 n] w fun e w' => ∃ a cap, e = .returned (.slice a (M.num n).length cap) ∧ Own 5 w' w.heap.size a (M.num n).length cap (u8s (M.num n)) ∧ Below w.heap.size w w' := by
  have Hn := Lib.hid hn
  by_cases h0 : n < 0
  · have Hz := Lib.hid (zig_neg hn h0)
    obtain ⟨hn1, hn2⟩ := hn
    go_enter Tryz.func103, Tryz.ntmps103
    go_wp2_with fail
    go_loopw [3, 4] (fun u b wr => ∃ (k U : Nat) (a : Option Addr) (cap : Nat) (acc : List UInt8), u = .int .u64 (U : Int) ∧ b = .slice a k cap ∧ acc.length = k ∧ Own 5 wr w.heap.size a k cap (u8s acc) ∧ Below w.heap.size w wr ∧ VInv n k U acc) (fun u _ _ => (intOf u).toNat)
    case atStart => exact ⟨0, M.zig n, none, 0, [], by first | rfl | (rw [Hz.out]), rfl, rfl, own_nil _ _ _, Below.refl _ _, vinv_start ⟨Hn.out.1, Hn.out.2⟩⟩
    case round =>
      obtain ⟨k, U, a, cap, acc, rfl, rfl, hl, hown, hb, hv⟩ := hrel
      have Hl := Lib.hid hl
      have Ho := Lib.hid hown
      have Hb := Lib.hid hb
      have Hv := Lib.hid hv
      clear hl hown hb hv
      have hU0 : (0 : Int) ≤ (U : Int) := by omega
      by_cases h128 : U < 128
      · have hU : (U : Int) < 128 := by omega
        have Hlast := Lib.hid (vinv_last Hv.out h128)
        have Hw := Lib.hid (show (U : Int) = (((UInt8.ofNat U).toNat : Nat) : Int) by rw [M.toNat_ofNat (by omega)])
        have hk10 := Lib.hid (show k ≤ 9 from Hv.out.1)
        clear h128
        go_wp2_with (at_builtin
                     refine wpList_append_u8 _ rfl (.tmp 22) (.tmp 25) rfl w.heap.size a k cap acc rfl (own_below Ho.out ((Below.refl _ _).alloc (Nat.le_refl _) _) (Nat.le_refl _)) _ 1 1 [UInt8.ofNat U] rfl (row_byte _ _ _ Hw.out) (k + 1) rfl (by have := hk10.out; omega) (by have := Hb.out.size; simp; omega) ?_
                     intro a2 cap2 w2 hown2 hb2
                     have Ho2 := Lib.hid hown2
                     have Hb2 := Lib.hid ((Hb.out.alloc Hb.out.size (.cells #[.int .u8 (U : Int)] 5)).trans hb2)
                     clear hown2 hb2)
        go_ret
        have hl : (M.num n).length = k + 1 := by rw [Hlast.out, List.length_append, Hl.out]; rfl
        refine ⟨a2, cap2, ?_, ?_, Hb2.out⟩
        · rw [hl]; rfl
        · rw [hl, Hlast.out]; exact Ho2.out
      · have hU : (128 : Int) ≤ (U : Int) := by omega
        have Hon := Lib.hid (vinv_on Hv.out h128)
        have Hw := Lib.hid (or_128 U)
        have Hlt := Lib.hid h128
        clear h128
        go_wp2_with (at_builtin
                     refine wpList_append_u8 _ rfl (.tmp 16) (.tmp 20) rfl w.heap.size a k cap acc rfl (own_below Ho.out ((Below.refl _ _).alloc (Nat.le_refl _) _) (Nat.le_refl _)) _ 1 1 [UInt8.ofNat (U % 128 + 128)] rfl (row_byte _ _ _ Hw.out) (k + 1) rfl (by have := Hv.out.1; omega) (by have := Hb.out.size; simp; omega) ?_
                     intro a2 cap2 w2 hown2 hb2
                     have Ho2 := Lib.hid hown2
                     have Hb2 := Lib.hid ((Hb.out.alloc Hb.out.size (.cells #[.int .u8 (bits BinOp.or IntKind.u8 (IntKind.u8.wrap (U : Int)) 128)] 5)).trans hb2)
                     clear hown2 hb2)
        go_roundw
        case rel => exact ⟨k + 1, U / 128, a2, cap2, acc ++ [UInt8.ofNat (U % 128 + 128)], by go_num, rfl, by rw [List.length_append, Hl.out]; rfl, Ho2.out, Hb2.out, Hon.out⟩
        case measure => have := Hlt.out; simp [intOf]; omega
  · have Hz := Lib.hid (zig_pos h0)
    obtain ⟨hn1, hn2⟩ := hn
    go_enter Tryz.func103, Tryz.ntmps103
    go_wp2_with fail
    go_loopw [3, 4] (fun u b wr => ∃ (k U : Nat) (a : Option Addr) (cap : Nat) (acc : List UInt8), u = .int .u64 (U : Int) ∧ b = .slice a k cap ∧ acc.length = k ∧ Own 5 wr w.heap.size a k cap (u8s acc) ∧ Below w.heap.size w wr ∧ VInv n k U acc) (fun u _ _ => (intOf u).toNat)
    case atStart => exact ⟨0, M.zig n, none, 0, [], by first | rfl | (rw [Hz.out]), rfl, rfl, own_nil _ _ _, Below.refl _ _, vinv_start ⟨Hn.out.1, Hn.out.2⟩⟩
    case round =>
      obtain ⟨k, U, a, cap, acc, rfl, rfl, hl, hown, hb, hv⟩ := hrel
      have Hl := Lib.hid hl
      have Ho := Lib.hid hown
      have Hb := Lib.hid hb
      have Hv := Lib.hid hv
      clear hl hown hb hv
      have hU0 : (0 : Int) ≤ (U : Int) := by omega
      by_cases h128 : U < 128
      · have hU : (U : Int) < 128 := by omega
        have Hlast := Lib.hid (vinv_last Hv.out h128)
        have Hw := Lib.hid (show (U : Int) = (((UInt8.ofNat U).toNat : Nat) : Int) by rw [M.toNat_ofNat (by omega)])
        have hk10 := Lib.hid (show k ≤ 9 from Hv.out.1)
        clear h128
        go_wp2_with (at_builtin
                     refine wpList_append_u8 _ rfl (.tmp 22) (.tmp 25) rfl w.heap.size a k cap acc rfl (own_below Ho.out ((Below.refl _ _).alloc (Nat.le_refl _) _) (Nat.le_refl _)) _ 1 1 [UInt8.ofNat U] rfl (row_byte _ _ _ Hw.out) (k + 1) rfl (by have := hk10.out; omega) (by have := Hb.out.size; simp; omega) ?_
                     intro a2 cap2 w2 hown2 hb2
                     have Ho2 := Lib.hid hown2
                     have Hb2 := Lib.hid ((Hb.out.alloc Hb.out.size (.cells #[.int .u8 (U : Int)] 5)).trans hb2)
                     clear hown2 hb2)
        go_ret
        have hl : (M.num n).length = k + 1 := by rw [Hlast.out, List.length_append, Hl.out]; rfl
        refine ⟨a2, cap2, ?_, ?_, Hb2.out⟩
        · rw [hl]; rfl
        · rw [hl, Hlast.out]; exact Ho2.out
      · have hU : (128 : Int) ≤ (U : Int) := by omega
        have Hon := Lib.hid (vinv_on Hv.out h128)
        have Hw := Lib.hid (or_128 U)
        have Hlt := Lib.hid h128
        clear h128
        go_wp2_with (at_builtin
                     refine wpList_append_u8 _ rfl (.tmp 16) (.tmp 20) rfl w.heap.size a k cap acc rfl (own_below Ho.out ((Below.refl _ _).alloc (Nat.le_refl _) _) (Nat.le_refl _)) _ 1 1 [UInt8.ofNat (U % 128 + 128)] rfl (row_byte _ _ _ Hw.out) (k + 1) rfl (by have := Hv.out.1; omega) (by have := Hb.out.size; simp; omega) ?_
                     intro a2 cap2 w2 hown2 hb2
                     have Ho2 := Lib.hid hown2
                     have Hb2 := Lib.hid ((Hb.out.alloc Hb.out.size (.cells #[.int .u8 (bits BinOp.or IntKind.u8 (IntKind.u8.wrap (U : Int)) 128)] 5)).trans hb2)
                     clear hown2 hb2)
        go_roundw
        case rel => exact ⟨k + 1, U / 128, a2, cap2, acc ++ [UInt8.ofNat (U % 128 + 128)], by go_num, rfl, by rw [List.length_append, Hl.out]; rfl, Ho2.out, Hb2.out, Hon.out⟩
        case measure => have := Hlt.out; simp [intOf]; omega
end Go.Proofs.YtpoolpckabpnfaaGreat.C
