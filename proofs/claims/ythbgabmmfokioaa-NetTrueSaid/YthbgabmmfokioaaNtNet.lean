/-
  A net in memory; what its methods tell that change nothing.
-/
import Derived.Test.YthbgabmmfokioaaNtMem
namespace Go.Proofs.Ythbgabmmfokioaa.Nt
open Go.RowKit
set_option linter.unusedVariables false
set_option linter.unusedSimpArgs false
set_option maxRecDepth 20000

/-- a net: a struct of one row (of type t) -/
def NAt (t : TypeId) (w : World) (p : Nat) (a : Option Addr) (l : List Lt) : Prop :=
  ∃ cap, w.heap[p]? = some (.cells #[.slice a l.length cap] t (0, 0)) ∧ OwnL w a cap l ∧ l.length ≤ 300
section
variable {t : TypeId} {w w' : World} {p : Nat} {a : Option Addr} {l : List Lt}
theorem NAt.len (h : NAt t w p a l) : l.length ≤ 300 := by obtain ⟨_, _, _, h⟩ := h; exact h
theorem NAt.lt (h : NAt t w p a l) : p < w.heap.size := by obtain ⟨_, h, _⟩ := h; exact lt_of_heap h
theorem NAt.ltb (h : NAt t w p a l) : blk p a < w.heap.size := by obtain ⟨_, h1, h2, _⟩ := h; exact h2.lt (lt_of_heap h1)
theorem NAt.of_block (h : NAt t w p a l) (h1 : w'.heap[p]? = w.heap[p]?) (h2 : w'.heap[blk p a]? = w.heap[blk p a]?) : NAt t w' p a l := by
  obtain ⟨cap, g, o, k⟩ := h
  exact ⟨cap, h1.trans g, o.of_block h2, k⟩
theorem NAt.but (h : NAt t w p a l) {q : List Nat} (hb : But q w w') (h1 : p ∉ q) (h2 : blk p a ∉ q) : NAt t w' p a l := h.of_block (hb.block _ h.lt h1) (hb.block _ h.ltb h2)
theorem NAt.below (h : NAt t w p a l) {B : Nat} (hb : Below B w w') (hB : w.heap.size ≤ B) : NAt t w' p a l :=
  h.of_block (hb.block _ (by have := h.lt; omega)) (hb.block _ (by have := h.ltb; omega))
theorem NAt.drew (h : NAt t w p a l) (q : Nat) : NAt t (w.drewN q) p a l := h
theorem NAt.cell (h : NAt t w p a l) : ∃ cap, w.cell? ⟨p, 0, none⟩ = some (.slice a l.length cap) ∧ w.frozen? ⟨p, 0, none⟩ = false ∧ OwnL w a cap l ∧ l.length ≤ cap ∧ cap ≤ maxLen := by
  obtain ⟨cap, g, o, k⟩ := h
  exact ⟨cap, by simp [World.cell?, g], by simp [World.frozen?, g], o, o.cap⟩
theorem NAt.row_ne {w : World} {a : Option Addr} {cap : Nat} {l : List Lt} (o : OwnL w a cap l) {p : Nat} {cs : Array Value} {fr : Nat × Nat} {t : TypeId} (h : w.heap[p]? = some (.cells cs t fr)) (ht : t ≠ 31) : a = none ∨ blk p a ≠ p := by
  rcases o with ⟨rfl, _⟩ | ⟨g, cur, rfl, h1, _⟩
  · exact .inl rfl
  · right
    simp only [blk]
    rintro rfl
    rw [h1] at h
    injection h with h
    injection h with _ h
    exact ht h.symm
/-- what a call leaves behind that only draws or makes memory -/
theorem NAt.mk {w : World} {p : Nat} {a : Option Addr} {cap : Nat} {l : List Lt} (h : w.heap[p]? = some (.cells #[.slice a l.length cap] t (0, 0))) (o : OwnL w a cap l) (k : l.length ≤ 300) : NAt t w p a l := ⟨cap, h, o, k⟩
end
abbrev tN : TypeId := 51

theorem place_any (x : Int) (w : World) : Calls Try.prog 23 #[.int .i64 x] w fun e w' => e = .returned (.bool (place x)) ∧ w = w' := by
  unfold place
  go_enter Try.func23, Try.ntmps23
  by_cases h : 0 ≤ x
  · have h1 : decide (0 ≤ x) = true := by simpa using h
    go_wp2
    go_ret
    simp [h1]
  · have h1 : decide (0 ≤ x) = false := by simpa using h
    go_wp2
    go_ret
    simp [h1]

theorem full_any {t : TypeId} {w : World} {p : Nat} {a : Option Addr} {l : List Lt} (h : NAt t w p a l) :
    Calls Try.prog 24 #[.pointer (some ⟨p, 0, none⟩)] w fun e w' => e = .returned (.bool (decide ((300 : Int) ≤ (l.length : Int)))) ∧ w = w' := by
  obtain ⟨cap, hc, hf, ho, _⟩ := h.cell
  clear h ho
  go_enter Try.func24, Try.ntmps24
  go_wp2
  go_ret
  exact ⟨rfl, rfl⟩
theorem full_no {t : TypeId} {w : World} {p : Nat} {a : Option Addr} {l : List Lt} (h : NAt t w p a l) (hl : l.length < 300) :
    Calls Try.prog 24 #[.pointer (some ⟨p, 0, none⟩)] w fun e w' => e = .returned (.bool false) ∧ w = w' := by
  have := full_any h
  rwa [decide_eq_false (by omega)] at this
theorem full_yes {t : TypeId} {w : World} {p : Nat} {a : Option Addr} {l : List Lt} (h : NAt t w p a l) (hl : 300 ≤ l.length) :
    Calls Try.prog 24 #[.pointer (some ⟨p, 0, none⟩)] w fun e w' => e = .returned (.bool true) ∧ w = w' := by
  have := full_any h
  rwa [decide_eq_true (by omega)] at this

theorem len_any {t : TypeId} {w : World} {p : Nat} {a : Option Addr} {l : List Lt} (h : NAt t w p a l) :
    Calls Try.prog 20 #[.pointer (some ⟨p, 0, none⟩)] w fun e w' => e = .returned (.int .i64 (l.length : Int)) ∧ w = w' := by
  obtain ⟨cap, hc, hf, ho, _⟩ := h.cell
  clear h ho
  go_enter Try.func20, Try.ntmps20
  go_wp2
  go_ret
  exact ⟨rfl, rfl⟩

theorem at_none {t : TypeId} {w : World} {p : Nat} {a : Option Addr} (h : NAt t w p a []) (i : Int) :
    Calls Try.prog 25 #[.pointer (some ⟨p, 0, none⟩), .int .i64 i] w fun e w' => e = .returned (.tuple #[.int .i64 0, .bool false]) ∧ w = w' := by
  obtain ⟨cap, hc, hf, ho, _⟩ := h.cell
  simp only [List.length_nil] at hc
  clear h ho
  go_enter Try.func25, Try.ntmps25
  go_wp2
  go_ret2
  exact ⟨rfl, rfl⟩
theorem at_some {t : TypeId} {w : World} {p : Nat} {a : Option Addr} {l : List Lt} (h : NAt t w p a l) (hl : l ≠ []) (i : Int) :
    Calls Try.prog 25 #[.pointer (some ⟨p, 0, none⟩), .int .i64 i] w fun e w' => e = .returned (.tuple #[.int .i64 ((ix i l.length : Nat) : Int), .bool true]) ∧ w = w' := by
  obtain ⟨cap, hc, hf, ho, _⟩ := h.cell
  have h0 : 0 < l.length := by cases l; contradiction; simp
  have h3 := h.len
  have h1 := (tmod_in i h0 h3).1
  have h2 := (tmod_in i h0 h3).2
  have HG := Lib.hid (ix_go i h0)
  have hI0 : (0 : Int) < (l.length : Int) := by omega
  have hI3 : (l.length : Int) ≤ 300 := by omega
  have hne : ((l.length : Int) == 0) = false := by rw [beq_eq_false_iff_ne]; omega
  clear h ho hl
  generalize l.length = n at *
  go_enter Try.func25, Try.ntmps25
  go_wp2
  go_ret2
  rw [HG.out]
  exact ⟨rfl, rfl⟩

theorem new_any (w : World) : Calls Try.prog 10 #[] w fun e w' => ∃ p, e = .returned (.pointer (some ⟨p, 0, none⟩)) ∧ NAt tN w' p none [] ∧ w.heap.size ≤ p ∧ Below w.heap.size w w' := by
  go_enter Try.func10, Try.ntmps10
  go_wp2
  go_ret
  exact ⟨w.heap.size, rfl, ⟨0, heap_alloc_new w _, OwnL.nil _, by simp⟩, Nat.le_refl _, (Below.refl _ _).alloc (Nat.le_refl _) _⟩
end Go.Proofs.Ythbgabmmfokioaa.Nt
