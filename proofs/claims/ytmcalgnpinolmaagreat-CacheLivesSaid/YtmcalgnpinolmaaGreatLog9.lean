/-
  Records: the payloads, in a row of the call's own.
-/
import Derived.Test.YtmcalgnpinolmaaGreatLog6
namespace Go.Proofs.YtmcalgnpinolmaaGreat
open Go.RowKit
set_option linter.unusedVariables false
set_option linter.unusedSimpArgs false
set_option maxRecDepth 20000

variable {dB sB mB n : Nat} {d : M.Dv} {lB rb first N : Nat} {cv : Value}

theorem wpList_append_one (w : World) {ops : Array Oper} {rest : List Oper} {o : Oper} {act : Act} {Q : Exit → Act → World → Prop} (hgd : o.guard = none) (s x : Operand)
    (ho : o.op = .call { callee := .builtin .append, args := #[s, x], argTypes := #[95, 95] })
    (B : Nat) (a : Option Addr) (k cap : Nat) (l : List ByteArray) (hs : act.eval s = .slice a k cap) (hown : C.Own 9 w B a k cap (C.strs l))
    (t : ByteArray) (b c : Nat) (hx : act.eval x = .slice (some ⟨b, 0, none⟩) 1 c) (hr : C.Row w (some ⟨b, 0, none⟩) 1 c (C.strs [t])) (hsum : k + 1 ≤ 1048576) (hB : B ≤ w.heap.size)
    (h : ∀ a' cap' w', C.Own 9 w' B a' (k + 1) cap' (C.strs (l ++ [t])) → Below B w w' → wpList Tryz.prog ops Q rest (act.put o.dst (.slice a' (k + 1) cap')) w') : wpList Tryz.prog ops Q (o :: rest) act w := by
  refine wpList_plain hgd fun K hK => ?_
  obtain ⟨a', cap', w', hrun, h2, h3, _, _⟩ := C.run_append_str w o.type B a k cap l hown (some ⟨b, 0, none⟩) 1 c [t] hr hsum hB
  unfold Oper.wp execOp
  simp only [ho, resolve, invoke, builtin, Sem.run_bind, Sem.run_pure, Result.andThen_ok, List.map_toArray, List.map_cons, List.map_nil, hs, hx, hrun]
  exact hK _ _ (h a' cap' w' h2 h3)

set_option maxHeartbeats 2000000 in
theorem records_any (w : World) (L : M.Lg) (hL : LogAt w lB rb dB first N cv L) :
    Calls Tryz.prog 42 #[.pointer (some ⟨lB, 0, none⟩)] w fun e w' => ∃ a cap, e = .returned (.slice a L.rs.length cap) ∧ C.Own 9 w' w.heap.size a L.rs.length cap (C.strs (L.rs.map (·.s))) ∧ Below w.heap.size w w' := by
  obtain ⟨ra, cap0, g, o, rfl, hra⟩ := hL
  have p7 := g.p7
  have hlen := o.2
  have HG := Lib.hid g
  have HO := Lib.hid o
  have Hlen := Lib.hid hlen
  clear g o hra
  go_enter Tryz.func42, Tryz.ntmps42
  go_wp2_with fail
  go_loopw [3, 11] (fun s i wr => ∃ (k : Nat) (a : Option Addr) (cap : Nat), k ≤ L.rs.length ∧ s = .slice a k cap ∧ i = .int .i64 k ∧ C.Own 9 wr w.heap.size a k cap (C.strs ((L.rs.take k).map (·.s))) ∧ Below w.heap.size w wr) (fun _ i _ => L.rs.length - (intOf i).toNat)
  case atStart => exact ⟨0, none, 0, by omega, rfl, rfl, C.own_nil 9 w w.heap.size, Below.refl _ _⟩
  case round =>
    obtain ⟨k, a, cap, hk, rfl, rfl, hown, hb⟩ := hrel
    have HOw := Lib.hid hown
    have HB := Lib.hid hb
    clear hown hb
    by_cases hlt : k < L.rs.length
    · have hltI : (k : Int) < (L.rs.length : Int) := by omega
      obtain ⟨r, hr⟩ : ∃ r, L.rs[k]? = some r := ⟨L.rs[k]'hlt, List.getElem?_eq_getElem _⟩
      obtain ⟨g0, hra0, hg0, k0, k1⟩ := HO.out.cell hr
      have hlI : (L.rs.length : Int) ≤ 1000 := by omega
      have q0 : wr.cell? ⟨g0, k * 2, none⟩ = some (.int .i64 r.time) := by rw [HB.out.cell (p := ⟨g0, k * 2, none⟩) hg0, ← Nat.zero_add (k * 2)]; exact k0
      have q1 : wr.cell? ⟨g0, k * 2 + 1, none⟩ = some (.string r.s) := by rw [HB.out.cell (p := ⟨g0, k * 2 + 1, none⟩) hg0, ← Nat.zero_add (k * 2)]; exact k1
      have HTk : Hid (L.rs.take (k + 1) = L.rs.take k ++ [r]) := Lib.hid (by rw [List.take_add_one, hr]; rfl)
      have HLt := Lib.hid hlt
      clear hlt k0 k1 hg0 hr
      subst hra0
      obtain ⟨rt, rs⟩ := r
      have HRw : Hid (C.Row ((wr.alloc (.cells #[.int .i64 rt, .string rs] 139)).alloc (.cells #[.string rs] 9)) (some ⟨wr.heap.size + 1, 0, none⟩) 1 1 (C.strs [rs])) := Lib.hid (by
        have := C.row_str_new (wr.alloc (.cells #[.int .i64 rt, .string rs] 139)) rs
        rwa [show (wr.alloc (.cells #[.int .i64 rt, .string rs] 139)).heap.size = wr.heap.size + 1 by simp] at this)
      have HOx : Hid (C.Own 9 ((wr.alloc (.cells #[.int .i64 rt, .string rs] 139)).alloc (.cells #[.string rs] 9)) w.heap.size a k cap (C.strs ((L.rs.take k).map (·.s)))) := Lib.hid (C.own_below HOw.out (((Below.refl _ wr).alloc (Nat.le_refl _) _).alloc (by simp) _) (Nat.le_refl _))
      have HSz : Hid (k + 1 ≤ 1048576 ∧ w.heap.size ≤ ((wr.alloc (.cells #[.int .i64 rt, .string rs] 139)).alloc (.cells #[.string rs] 9)).heap.size) := Lib.hid ⟨by have := Hlen.out; have := HLt.out; omega, by have := HB.out.size; simp; omega⟩
      go_wp2_with (at_builtin
                   refine wpList_append_one _ rfl (.tmp 15) (.tmp 18) rfl w.heap.size a k cap _ rfl HOx.out rs _ 1 rfl HRw.out HSz.out.1 HSz.out.2 ?_
                   intro a2 cap2 w2 hown2 hb2
                   have HO2 := Lib.hid hown2
                   have HB2 : Hid (Below w.heap.size w w2) := Lib.hid (((HB.out.alloc HB.out.size _).alloc (by have := HB.out.size; simp; omega) _).trans hb2)
                   clear hown2 hb2)
      go_roundw
      case rel => exact ⟨k + 1, a2, cap2, by have := HLt.out; omega, rfl, by go_num, by rw [HTk.out, List.map_append]; exact HO2.out, HB2.out⟩
      case measure => have := HLt.out; simp [intOf]; omega
    · have hke : k = L.rs.length := by omega
      have hltI : ¬ (k : Int) < (L.rs.length : Int) := by omega
      subst hke
      clear hlt
      rw [List.take_length] at HOw
      go_wp2_with fail
      go_ret
      exact ⟨a, cap, rfl, HOw.out, HB.out⟩
end Go.Proofs.YtmcalgnpinolmaaGreat
