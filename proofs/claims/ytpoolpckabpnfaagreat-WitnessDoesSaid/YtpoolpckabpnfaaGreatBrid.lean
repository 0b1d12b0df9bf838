/-
  Rows of bytes as each of the three elder parts (sum, records, device) knows them; what stays.
-/
import Derived.Test.YtpoolpckabpnfaaGreatKWalks
import Derived.Test.YtpoolpckabpnfaaGreatCAwake
import Derived.Test.YtpoolpckabpnfaaGreatSMem
import Derived.Test.YtpoolpckabpnfaaGreatSlots
namespace Go.Proofs.YtpoolpckabpnfaaGreat
open Go.RowKit
set_option linter.unusedVariables false
set_option linter.unusedSimpArgs false
set_option maxRecDepth 20000

theorem row_c {w : World} {a : Option Addr} {n c : Nat} {vs : List Value} (h : C.Row w a n c vs) : Row w a n c vs := h
theorem c_row {w : World} {a : Option Addr} {n c : Nat} {vs : List Value} (h : Row w a n c vs) : C.Row w a n c vs := h

theorem k_row {w : World} {a : Option Addr} {n c : Nat} {l : List UInt8} (h : Row w a n c (u8s l)) (hn : n ≤ 140737488355328) : K.Row w a n (M.ints8 l) := by
  obtain ⟨h1, h2, h3, h4⟩ := h
  rw [u8s_length] at h1
  refine ⟨by rw [← h1]; simp [M.ints8], hn, fun x hx => ?_, ?_⟩
  · obtain ⟨c, _, rfl⟩ := List.mem_map.1 hx
    have := c.toNat_lt
    exact ⟨by omega, by omega⟩
  · rcases h4 with h4 | ⟨b, off, ha, _, hc⟩
    · refine .inl ?_
      have : l = [] := by simpa [u8s] using h4
      subst this; rfl
    · refine .inr ⟨b, off, ha, fun i hi => ?_⟩
      have hil : i < l.length := by simpa [M.ints8] using hi
      rw [hc i (by omega)]
      simp [u8s, u8, M.ints8, hil, List.getD_eq_getElem?_getD]

/-- an own row of bytes -/
abbrev OwnB (w : World) (B : Nat) (a : Option Addr) (n cap : Nat) (l : List UInt8) : Prop := C.Own 5 w B a n cap (u8s l)
theorem OwnB.row {w : World} {B : Nat} {a : Option Addr} {n cap : Nat} {l : List UInt8} (h : OwnB w B a n cap l) : Row w a n cap (u8s l) := (C.own_row h).1
theorem OwnB.at {w : World} {B : Nat} {a : Option Addr} {n cap : Nat} {l : List UInt8} (h : OwnB w B a n cap l) : ∀ b off, a = some ⟨b, off, none⟩ → B ≤ b ∧ off = 0 := (C.own_row h).2
theorem OwnB.len {w : World} {B : Nat} {a : Option Addr} {n cap : Nat} {l : List UInt8} (h : OwnB w B a n cap l) : l.length = n := by have := h.row.1; rwa [u8s_length] at this

/-- behind changes of some blocks a row elsewhere is as it was -/
theorem row_below {w w' : World} {B : Nat} {a : Option Addr} {n cap : Nat} {vs : List Value} (h : Row w a n cap vs) (hb : Below B w w') (hB : w.heap.size ≤ B) : Row w' a n cap vs := C.row_below h hb hB

theorem append_bytes (w : World) {ops : Array Oper} {rest : List Oper} {o : Oper} {act : Act} {Q : Exit → Act → World → Prop} (hgd : o.guard = none) (s x : Operand)
    (ho : o.op = .call { callee := .builtin .append, args := #[s, x], argTypes := #[50, 50] })
    (B : Nat) (a : Option Addr) (n cap : Nat) (l : List UInt8) (hs : act.eval s = .slice a n cap) (hown : OwnB w B a n cap l)
    (A : Option Addr) (m c : Nat) (y : List UInt8) (hx : act.eval x = .slice A m c) (hr : Row w A m c (u8s y)) (k : Nat) (hk : n + m = k) (hsum : k ≤ 1048576) (hB : B ≤ w.heap.size)
    (h : ∀ a' cap' w', OwnB w' B a' k cap' (l ++ y) → Below B w w' → wpList Tryz.prog ops Q rest (act.put o.dst (.slice a' k cap')) w') : wpList Tryz.prog ops Q (o :: rest) act w :=
  C.wpList_append_u8 w hgd s x ho B a n cap l hs hown A m c y hx hr k hk hsum hB h

theorem own_lit8 (w : World) (B : Nat) (l : List UInt8) (hB : B ≤ w.heap.size) (hl : l.length ≤ 1000) : OwnB (w.alloc (.cells (u8s l).toArray 5)) B (some ⟨w.heap.size, 0, none⟩) l.length l.length l := by
  have := C.own_lit 5 w B (u8s l) hB (by rw [u8s_length]; exact hl)
  rw [u8s_length] at this
  exact this

/-- the record of a slot, as Slot lays it -/
theorem recs_at (w : World) (g : Int) (t : ByteArray) :
    C.RecAt ((w.alloc (.cells #[.int .i64 g] 2)).alloc (.cells #[.string t] 9)) (M.recS g t) (some ⟨w.heap.size, 0, none⟩) 1 1 (some ⟨w.heap.size + 1, 0, none⟩) 1 1 where
  nums := C.row_below (C.row_i64_new w g) ((Below.refl (w.alloc (.cells #[.int .i64 g] 2)).heap.size _).alloc (Nat.le_refl _) _) (Nat.le_refl _)
  texts := by
    have := C.row_str_new (w.alloc (.cells #[.int .i64 g] 2)) t
    rw [show (w.alloc (.cells #[.int .i64 g] 2)).heap.size = w.heap.size + 1 by simp] at this
    exact this
end Go.Proofs.YtpoolpckabpnfaaGreat
