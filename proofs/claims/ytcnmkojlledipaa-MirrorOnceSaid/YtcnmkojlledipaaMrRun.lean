/-
  Items compared; two rows that are the same; a sender of the call's own through its calls.
-/
import Derived.Test.YtcnmkojlledipaaMrAck
import Derived.Laws.StructEq
namespace Go.Proofs.Ytcnmkojlledipaa.Mr
open Go.RowKit
set_option linter.unusedVariables false
set_option linter.unusedSimpArgs false
set_option maxRecDepth 20000

theorem it_struct : Try.prog.underlying 29 = some (.struct (Try.prog.fieldsOf 29)) := by kernel_rfl
theorem it_held : Try.prog.stoodInHeld 29 = false := by kernel_rfl
theorem it_guard : Try.prog.eqGuardType Try.prog.depth 29 = false := by kernel_rfl
theorem toList_inj {a b : ByteArray} (h : a.toList = b.toList) : a = b := by
  rw [ByteArray.toList_eq, ByteArray.toList_eq] at h
  obtain ⟨⟨x⟩⟩ := a
  obtain ⟨⟨y⟩⟩ := b
  simp only at h
  rw [h]
theorem toList_ne {a b : ByteArray} (h : a ≠ b) : ¬ a.toList = b.toList := fun e => h (toList_inj e)
theorem it_neq (x y : It) (w : World) : (binOp .neq 29 (.agg #[.int .i64 x.seq, .int .i64 x.blk, .string x.data, .int .i64 x.cl, .int .i64 x.n]) (.agg #[.int .i64 y.seq, .int .i64 y.blk, .string y.data, .int .i64 y.cl, .int .i64 y.n])).run Try.prog w = .ok (.bool (!decide (x = y))) w := by
  have u2 := Try.underlying2
  have u3 := Try.underlying3
  have u9 := Try.underlying9
  have z2 := Try.sizeOf2
  have z3 := Try.sizeOf3
  have z9 := Try.sizeOf9
  have a2 := Try.isAgg2
  have a3 := Try.isAgg3
  have a9 := Try.isAgg9
  rw [run_neq_struct, show (10000 : Nat) = 9999 + 1 from rfl, run_equalIn_agg w 9999 29 _ _ it_struct it_held]
  simp only [Program.fieldsOf, Try.underlying29]
  go_simp
  obtain ⟨a1, a2, a3, a4, a5⟩ := x
  obtain ⟨b1, b2, b3, b4, b5⟩ := y
  by_cases h3 : a3 = b3
  · by_cases h1 : a1 = b1 <;> by_cases h2 : a2 = b2 <;> by_cases h4 : a4 = b4 <;> by_cases h5 : a5 = b5 <;> simp [h1, h2, h3, h4, h5]
  · have hb := toList_ne h3
    by_cases h1 : a1 = b1 <;> by_cases h2 : a2 = b2 <;> by_cases h4 : a4 = b4 <;> by_cases h5 : a5 = b5 <;> simp [h1, h2, h3, h4, h5, hb]

set_option maxHeartbeats 1000000 in
theorem same_yes (w : World) (a b : Option Addr) (c d : Nat) (l : List It) (n : Nat) (hn : n ≤ 100000) (ha : Rd w a n l) (hb : Rd w b n l) :
    Calls Try.prog 17 #[.slice a n c, .slice b n d] w fun e w' => e = .returned (.bool true) ∧ ∃ q, w' = w.drewN q := by
  have HA := Lib.hid ha
  have HB := Lib.hid hb
  have HL : Hid (l.length = n) := Lib.hid ha.1
  have hnI : (n : Int) ≤ 100000 := by omega
  have hm := it_guard
  have hp := it_held
  clear ha hb
  go_enter Try.func17, Try.ntmps17
  go_wp2
  go_loopw [13] (fun i wz => ∃ k q : Nat, k ≤ n ∧ i = .int .i64 (k : Int) ∧ wz = w.drewN q) (fun i _ => n - (intOf i).toNat)
  case atStart => exact ⟨0, 0, Nat.zero_le _, rfl, rfl⟩
  case round =>
    obtain ⟨k, q, hk, rfl, rfl⟩ := hrel
    by_cases hlt : k < n
    · have hltI : (k : Int) < (n : Int) := by omega
      obtain ⟨x, hx⟩ : ∃ x, l[k]? = some x := ⟨_, List.getElem?_eq_getElem (by have := HL.out; omega)⟩
      obtain ⟨b1, o1, rfl, _, c1, c2, c3, c4, c5⟩ := HA.out.at hx
      obtain ⟨b2, o2, rfl, _, d1, d2, d3, d4, d5⟩ := HB.out.at hx
      have HX := Lib.hid hx
      clear hx
      go_wp2
      go_quiet (fail)
      go_wp2
      go_roundw
      case rel => exact ⟨k + 1, q + nq, by omega, by go_num, by simp⟩
      case measure => simp [intOf]; omega
    · have hkl : k = n := by omega
      subst hkl
      clear hlt
      go_wp2
      go_ret
      exact ⟨rfl, q, rfl⟩

/-- a sender of the call's own -/
structure Rn (w0 w : World) (p : Nat) (A : Int) (a : Option Addr) (l : List It) : Prop where
  at_ : SAt w p A a l
  op : w0.heap.size ≤ p
  oa : w0.heap.size ≤ blk p a
  be : Below w0.heap.size w0 w
/-- where a row's block lies behind a call: where it lay, or new -/
def Moved (w : World) (p : Nat) (a a' : Option Addr) : Prop := blk p a' = blk p a ∨ w.heap.size ≤ blk p a'
/-- what becomes of it in a call -/
def Aft (w0 w : World) (p : Nat) (a : Option Addr) (A' : Int) (l' : List It) (w' : World) : Prop := ∃ a', Rn w0 w' p A' a' l' ∧ Moved w p a a' ∧ But [p, blk p a] w w'
section
variable {w0 w w' : World} {p : Nat} {A A' : Int} {a : Option Addr} {l l' : List It}
theorem Rn.aft (h : Rn w0 w p A a l) (k : ∃ a', SAt w' p A' a' l' ∧ Moved w p a a' ∧ But [p, blk p a] w w') : Aft w0 w p a A' l' w' := by
  obtain ⟨a', h1, h2, h3⟩ := k
  have hs := h.be.size
  refine ⟨a', ⟨h1, h.op, ?_, h.be.trans (h3.to_below ?_ h.be.size)⟩, h2, h3⟩
  · rcases h2 with e | e
    · rw [e]; exact h.oa
    · omega
  · intro x hx
    simp at hx
    rcases hx with rfl | rfl
    · exact h.op
    · exact h.oa
theorem Rn.below (h : Rn w0 w p A a l) (hb : Below w.heap.size w w') : Rn w0 w' p A a l := ⟨h.at_.below hb (Nat.le_refl _), h.op, h.oa, h.be.trans (hb.mono h.be.size)⟩
theorem Rn.add (h : Rn w0 w p A a l) (x : It) (hl : l.length < 100000) : Calls Try.prog 12 #[.pointer (some ⟨p, 0, none⟩), itV x] w fun e w' => e = .returned (.tuple #[.int .i64 (addN A l), .int .i64 (addE A l)]) ∧ Aft w0 w p a A (addL A l x) w' :=
  (add_any h.at_ x hl).mono fun e w' ⟨k1, a', k2, k3, k4⟩ => ⟨k1, h.aft ⟨a', k2, k3.blk p, k4⟩⟩
theorem Rn.ack (h : Rn w0 w p A a l) (q : Int) : Calls Try.prog 14 #[.pointer (some ⟨p, 0, none⟩), .int .i64 q] w fun e w' => e = .returned (.bool (ackB A l q)) ∧ Aft w0 w p a (ackA A l q) (ackL A l q) w' :=
  (ack_any h.at_ q).mono fun e w' ⟨k1, a', k2, k3, k4⟩ => ⟨k1, h.aft ⟨a', k2, .inl k3, k4⟩⟩
end
theorem new_run (w0 w : World) (b : Int) (hb : Below w0.heap.size w0 w) : Calls Try.prog 10 #[.int .i64 b] w fun e w' => e = .returned (.pointer (some ⟨w.heap.size, 0, none⟩)) ∧ Rn w0 w' w.heap.size (base b) none [] ∧ Below w.heap.size w w' := by
  refine (new_any w b).mono ?_
  rintro e w' ⟨rfl, h1, h2⟩
  exact ⟨rfl, ⟨h1, hb.size, hb.size, hb.trans (h2.mono hb.size)⟩, h2⟩

/-- a sender, its row wherever -/
def Rx (w0 w : World) (p : Nat) (A : Int) (l : List It) : Prop := ∃ a, Rn w0 w p A a l
section
variable {w0 w w' : World} {p : Nat} {A A' : Int} {a : Option Addr} {l l' : List It}
theorem Rx.of (h : Aft w0 w p a A' l' w') : Rx w0 w' p A' l' := by obtain ⟨a', h, _⟩ := h; exact ⟨a', h⟩
theorem Rx.add (h : Rx w0 w p A l) (x : It) (hl : l.length < 100000) : Calls Try.prog 12 #[.pointer (some ⟨p, 0, none⟩), itV x] w fun e w' => e = .returned (.tuple #[.int .i64 (addN A l), .int .i64 (addE A l)]) ∧ Rx w0 w' p A (addL A l x) := by
  obtain ⟨a, h⟩ := h
  exact (h.add x hl).mono fun e w' k => ⟨k.1, Rx.of k.2⟩
theorem Rx.ack (h : Rx w0 w p A l) (q : Int) : Calls Try.prog 14 #[.pointer (some ⟨p, 0, none⟩), .int .i64 q] w fun e w' => e = .returned (.bool (ackB A l q)) ∧ Rx w0 w' p (ackA A l q) (ackL A l q) := by
  obtain ⟨a, h⟩ := h
  exact (h.ack q).mono fun e w' k => ⟨k.1, Rx.of k.2⟩
theorem Rx.below (h : Rx w0 w p A l) (hb : Below w.heap.size w w') : Rx w0 w' p A l := by obtain ⟨a, h⟩ := h; exact ⟨a, h.below hb⟩
theorem Rx.be (h : Rx w0 w p A l) : Below w0.heap.size w0 w := by obtain ⟨a, h⟩ := h; exact h.be
theorem Rx.nums (h : Rx w0 w p A l) : 0 ≤ A ∧ A + (l.length : Int) ≤ 4611686018427387904 := by obtain ⟨a, h⟩ := h; exact h.at_.nums
theorem Rx.last (h : Rx w0 w p A l) : Calls Try.prog 19 #[.pointer (some ⟨p, 0, none⟩)] w fun e w' => e = .returned (.int .i64 (A + (l.length : Int))) ∧ ∃ q, w' = w.drewN q := by
  obtain ⟨a, h⟩ := h
  exact last_any h.at_
theorem Rx.acked (h : Rx w0 w p A l) : Calls Try.prog 21 #[.pointer (some ⟨p, 0, none⟩)] w fun e w' => e = .returned (.int .i64 A) ∧ w = w' := by
  obtain ⟨a, h⟩ := h
  exact acked_any h.at_
theorem Rx.left (h : Rx w0 w p A l) (hl : l.length ≤ 100000) : Calls Try.prog 16 #[.pointer (some ⟨p, 0, none⟩)] w fun e w' => ∃ a' cap', e = .returned (.slice a' l.length cap') ∧ Rx w0 w' p A l ∧ OwnI w' a' cap' l ∧ Fresh w.heap.size a' ∧ Below w.heap.size w w' := by
  obtain ⟨a, h⟩ := h
  refine (left_any h.at_ hl).mono ?_
  rintro e w' ⟨a', cap', rfl, h1, h2, hb⟩
  exact ⟨a', cap', rfl, ⟨a, h.below hb⟩, h1, h2, hb⟩
end
end Go.Proofs.Ytcnmkojlledipaa.Mr
