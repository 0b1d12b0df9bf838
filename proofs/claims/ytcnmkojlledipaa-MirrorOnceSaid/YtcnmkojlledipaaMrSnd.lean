/-
  A sender in memory: New, Last, Acked, Left (slices.Clone), Next.
-/
import Derived.Test.YtcnmkojlledipaaMrMem
import Derived.Lib.SliceRun
namespace Go.Proofs.Ytcnmkojlledipaa.Mr
open Go.RowKit
set_option linter.unusedVariables false
set_option linter.unusedSimpArgs false
set_option maxRecDepth 20000

/-- a row, if it has a block, lies from B on -/
def Fresh (B : Nat) (a : Option Addr) : Prop := ∀ x, a = some x → B ≤ x.block
theorem Fresh.none (B : Nat) : Fresh B none := fun x h => by cases h
theorem Fresh.mono {B B' : Nat} {a : Option Addr} (h : Fresh B a) (hB : B' ≤ B) : Fresh B' a := fun x hx => Nat.le_trans hB (h x hx)
theorem Fresh.anew {B : Nat} {w : World} {a a' : Option Addr} (h : Fresh B a) (k : Anew w a a') (hB : B ≤ w.heap.size) : Fresh B a' := by
  rcases k with rfl | ⟨g, rfl, hg⟩
  · exact h
  · intro x hx
    injection hx with hx
    subst hx
    exact Nat.le_trans hB hg
theorem Fresh.blk {B : Nat} {a : Option Addr} (h : Fresh B a) {p : Nat} (hp : B ≤ p) : B ≤ blk p a := by
  cases a with
  | none => exact hp
  | some x => exact h x rfl

/-- []api.Item{} -/
theorem own_empty (w : World) : OwnI (w.alloc (.cells #[] 29)) (some ⟨w.heap.size, 0, none⟩) 0 [] :=
  .inr ⟨w.heap.size, 0, #[], rfl, heap_alloc_new w _, Nat.le_refl _, Nat.zero_le _, Nat.le_refl _, rfl⟩
/-- a row of items in a block whose cells are known -/
theorem own_at {W : World} {g : Nat} (h : W.heap[g]? = some (.cells #[] 29 (0, 0))) : OwnI W (some ⟨g, 0, none⟩) 0 [] := .inr ⟨g, 0, #[], rfl, h, Nat.le_refl _, Nat.zero_le _, Nat.le_refl _, rfl⟩
/-- an item in a block of its own -/
theorem rd_one {w : World} {b : Nat} {x : It} {t : TypeId} {fr : Nat × Nat} (h : w.heap[b]? = some (.cells #[.int .i64 x.seq, .int .i64 x.blk, .string x.data, .int .i64 x.cl, .int .i64 x.n] t fr)) : Rd w (some ⟨b, 0, none⟩) 1 [x] := by
  refine ⟨rfl, .inr ⟨b, 0, rfl, lt_of_heap h, fun j u hu => ?_⟩⟩
  simp only [World.cell?, h, Nat.zero_add]
  match j, hu with
  | 0, hu => simpa [itms] using hu
  | 1, hu => simpa [itms] using hu
  | 2, hu => simpa [itms] using hu
  | 3, hu => simpa [itms] using hu
  | 4, hu => simpa [itms] using hu

set_option maxHeartbeats 1000000 in
theorem clone_any (w : World) {a : Option Addr} {cap : Nat} {l : List It} (h : OwnI w a cap l) (hl : l.length ≤ 100000) :
    Calls Try.prog 24 #[.slice a l.length cap] w fun e w' => ∃ a' cap', e = .returned (.slice a' l.length cap') ∧ OwnI w' a' cap' l ∧ Fresh w.heap.size a' ∧ Below w.heap.size w w' := by
  have hr := h.rd
  have q22 : ∀ (w : World) (a : Option Addr) (n c n' c' : Nat), (binOp .eql 36 (.slice a n c) (.slice none n' c')).run Try.prog w = .ok (.bool a.isNone) w := fun w a n c n' c' => Lib.run_eql_slice_nil w _ _ a n c n' c' Try.underlying36
  rcases h with ⟨rfl, rfl, rfl⟩ | ⟨g, off, cur, rfl, _⟩
  · clear hr hl
    go_enter Try.func24, Try.ntmps24
    go_wp2
    go_ret
    exact ⟨none, 0, rfl, OwnI.nil _, Fresh.none _, Below.refl _ _⟩
  · have HR : Hid (Rd (w.alloc (.cells #[] 29)) (some ⟨g, off, none⟩) l.length l) := Lib.hid (hr.keep (by simp) fun b off _ hlt => Below.heap_alloc _ _ _ hlt)
    have HO := Lib.hid (own_empty w)
    have HL := Lib.hid hl
    clear hr hl
    go_enter Try.func24, Try.ntmps24
    go_wp2_with (at_builtin
                 refine wpList_append_I _ rfl (.tmp 5) (.tmp 6) rfl _ 0 0 [] rfl rfl HO.out _ _ _ l rfl HR.out (by have := HL.out; omega) ?_
                 intro a' cap' w' h1 h2 h3
                 have H1 := Lib.hid h1
                 have H2 := Lib.hid h2
                 have H3 := Lib.hid h3
                 clear h1 h2 h3)
    go_ret
    refine ⟨a', cap', rfl, by simpa using H1.out, ?_, ((Below.refl _ _).alloc (Nat.le_refl _) _).grown H2.out (by simp) (by simp [Value.ownBlock])⟩
    exact Fresh.anew (w := w.alloc (.cells #[] 29)) (a := some ⟨w.heap.size, 0, none⟩) (fun x hx => by injection hx with hx; subst hx; exact Nat.le_refl _) H3.out (by simp)

/-! a sender -/
abbrev tS : TypeId := 53
def SAt (w : World) (p : Nat) (A : Int) (a : Option Addr) (l : List It) : Prop :=
  ∃ cap, w.heap[p]? = some (.cells #[.int .i64 A, .slice a l.length cap] tS (0, 0)) ∧ OwnI w a cap l ∧ 0 ≤ A ∧ last A l ≤ 4611686018427387904
section
variable {w w' : World} {p : Nat} {A : Int} {a : Option Addr} {l : List It}
theorem SAt.lt (h : SAt w p A a l) : p < w.heap.size := by obtain ⟨_, h, _⟩ := h; exact lt_of_heap h
theorem SAt.ltb (h : SAt w p A a l) : blk p a < w.heap.size := by obtain ⟨_, h1, h2, _⟩ := h; exact h2.lt (lt_of_heap h1)
theorem SAt.nums (h : SAt w p A a l) : 0 ≤ A ∧ A + (l.length : Int) ≤ 4611686018427387904 := by obtain ⟨_, _, _, h⟩ := h; exact h
theorem SAt.of_block (h : SAt w p A a l) (h1 : w'.heap[p]? = w.heap[p]?) (h2 : w'.heap[blk p a]? = w.heap[blk p a]?) : SAt w' p A a l := by
  obtain ⟨cap, g, o, k⟩ := h
  exact ⟨cap, h1.trans g, o.of_block h2, k⟩
theorem SAt.but (h : SAt w p A a l) {q : List Nat} (hb : But q w w') (h1 : p ∉ q) (h2 : blk p a ∉ q) : SAt w' p A a l := h.of_block (hb.block _ h.lt h1) (hb.block _ h.ltb h2)
theorem SAt.below (h : SAt w p A a l) {B : Nat} (hb : Below B w w') (hB : w.heap.size ≤ B) : SAt w' p A a l :=
  h.of_block (hb.block _ (by have := h.lt; omega)) (hb.block _ (by have := h.ltb; omega))
theorem SAt.drew (h : SAt w p A a l) (q : Nat) : SAt (w.drewN q) p A a l := h
theorem SAt.cell (h : SAt w p A a l) : ∃ cap, w.cell? ⟨p, 0, none⟩ = some (.int .i64 A) ∧ w.cell? ⟨p, 1, none⟩ = some (.slice a l.length cap) ∧ w.frozen? ⟨p, 0, none⟩ = false ∧ w.frozen? ⟨p, 1, none⟩ = false ∧ OwnI w a cap l ∧ l.length ≤ cap ∧ cap ≤ maxLen := by
  obtain ⟨cap, g, o, k⟩ := h
  exact ⟨cap, by simp [World.cell?, g], by simp [World.cell?, g], by simp [World.frozen?, g], by simp [World.frozen?, g], o, o.cap⟩
theorem row_ne {w : World} {a : Option Addr} {cap : Nat} {l : List It} (o : OwnI w a cap l) {p : Nat} {cs : Array Value} {fr : Nat × Nat} {t : TypeId} (h : w.heap[p]? = some (.cells cs t fr)) (ht : t ≠ 29) : a = none ∨ blk p a ≠ p := by
  rcases o with ⟨rfl, _⟩ | ⟨g, off, cur, rfl, h1, _⟩
  · exact .inl rfl
  · right
    simp only [blk]
    rintro rfl
    rw [h1] at h
    injection h with h
    injection h with _ h
    exact ht h.symm
end

theorem new_any (w : World) (b : Int) : Calls Try.prog 10 #[.int .i64 b] w fun e w' => e = .returned (.pointer (some ⟨w.heap.size, 0, none⟩)) ∧ SAt w' w.heap.size (base b) none [] ∧ Below w.heap.size w w' := by
  have hs : ∀ x : Int, 0 ≤ x → x ≤ 4611686018427387904 → SAt (w.alloc (.cells #[.int .i64 x, .slice none 0 0] 53)) w.heap.size x none [] := fun x h1 h2 => ⟨0, heap_alloc_new w _, OwnI.nil _, h1, by simpa [last] using h2⟩
  have hb := (Below.refl w.heap.size w).alloc (Nat.le_refl _)
  have HS := Lib.hid hs
  have HB := Lib.hid hb
  clear hs hb
  by_cases h : b < 0
  · have e : base b = 0 := by unfold base; rw [if_pos h]
    rw [e]
    clear e
    go_enter Try.func10, Try.ntmps10
    go_wp2
    go_ret
    exact ⟨rfl, HS.out 0 (by omega) (by omega), HB.out _⟩
  · by_cases h2 : 4611686018427387904 < b
    · have e : base b = 4611686018427387904 := by unfold base; rw [if_neg h, if_pos h2]
      rw [e]
      clear e
      go_enter Try.func10, Try.ntmps10
      go_wp2
      go_ret
      exact ⟨rfl, HS.out _ (by omega) (by omega), HB.out _⟩
    · have e : base b = b := by unfold base; rw [if_neg h, if_neg h2]
      rw [e]
      clear e
      go_enter Try.func10, Try.ntmps10
      go_wp2
      go_ret
      exact ⟨rfl, HS.out _ (by omega) (by omega), HB.out _⟩

theorem last_any {w : World} {p : Nat} {A : Int} {a : Option Addr} {l : List It} (h : SAt w p A a l) :
    Calls Try.prog 19 #[.pointer (some ⟨p, 0, none⟩)] w fun e w' => e = .returned (.int .i64 (A + (l.length : Int))) ∧ ∃ q, w' = w.drewN q := by
  obtain ⟨cap, c0, c1, f0, f1, ho, k1, k2⟩ := h.cell
  have h0 := h.nums.1
  have h1 := h.nums.2
  have hn : (0 : Int) ≤ (l.length : Int) := by omega
  have hw : IntKind.i64.wrap (A + (l.length : Int)) = A + (l.length : Int) := IntWalk.i64_in _ (by omega)
  clear h ho
  go_enter Try.func19, Try.ntmps19
  go_wp2
  go_quiet (fail)
  go_wp2
  go_ret
  exact ⟨rfl, nq, rfl⟩

theorem acked_any {w : World} {p : Nat} {A : Int} {a : Option Addr} {l : List It} (h : SAt w p A a l) :
    Calls Try.prog 21 #[.pointer (some ⟨p, 0, none⟩)] w fun e w' => e = .returned (.int .i64 A) ∧ w = w' := by
  obtain ⟨cap, c0, c1, f0, f1, ho, k1, k2⟩ := h.cell
  clear h ho
  go_enter Try.func21, Try.ntmps21
  go_wp2
  go_ret
  exact ⟨rfl, rfl⟩

theorem left_any {w : World} {p : Nat} {A : Int} {a : Option Addr} {l : List It} (h : SAt w p A a l) (hl : l.length ≤ 100000) :
    Calls Try.prog 16 #[.pointer (some ⟨p, 0, none⟩)] w fun e w' => ∃ a' cap', e = .returned (.slice a' l.length cap') ∧ OwnI w' a' cap' l ∧ Fresh w.heap.size a' ∧ Below w.heap.size w w' := by
  obtain ⟨cap, c0, c1, f0, f1, ho, k1, k2⟩ := h.cell
  have HC := Lib.hid (clone_any w ho hl)
  clear h ho
  go_enter Try.func16, Try.ntmps16
  go_wp2_with (go_at_call 24; with_reducible refine HC.out.mono ?_; rintro e w' ⟨a', cap', rfl, h1, h2, h3⟩
               have H := Lib.hid (And.intro h1 (And.intro h2 h3))
               clear h1 h2 h3)
  go_ret
  exact ⟨a', cap', rfl, H.out.1, H.out.2.1, H.out.2.2⟩

/-! Next: pure -/
theorem next_had {le ls e s : Int} (h : e = le ∧ s ≤ ls) : next le ls e s = 2 := if_pos h
theorem next_take {le ls e s : Int} (h : ¬ (e = le ∧ s ≤ ls)) (k : (e = le ∧ s = ls + 1) ∨ (le < e ∧ s = 1)) : next le ls e s = 1 := by unfold next; rw [if_neg h, if_pos k]
theorem next_no {le ls e s : Int} (h : ¬ (e = le ∧ s ≤ ls)) (k : ¬ ((e = le ∧ s = ls + 1) ∨ (le < e ∧ s = 1))) : next le ls e s = 0 := by unfold next; rw [if_neg h, if_neg k]

theorem next_any (w : World) (le ls e s : Int) (hls : -9223372036854775808 ≤ ls) (hs : s ≤ 9223372036854775807) :
    Calls Try.prog 22 #[.agg #[.int .i64 le, .int .i64 ls], .int .i64 e, .int .i64 s] w fun x w' => x = .returned (.int .i64 (next le ls e s)) ∧ Below w.heap.size w w' := by
  have HB := Lib.hid ((Below.refl w.heap.size w).alloc (Nat.le_refl _) (.cells #[.int .i64 le, .int .i64 ls] 44))
  by_cases he : e = le
  · subst he
    by_cases h1 : s ≤ ls
    · rw [next_had ⟨rfl, h1⟩]
      go_enter Try.func22, Try.ntmps22
      go_wp2
      go_ret
      exact ⟨rfl, HB.out⟩
    · have hw : IntKind.i64.wrap (ls + 1) = ls + 1 := IntWalk.i64_in _ (by omega)
      have h1' : decide (s ≤ ls) = false := by simpa using h1
      by_cases h2 : s = ls + 1
      · rw [next_take (fun h => h1 h.2) (.inl ⟨rfl, h2⟩)]
        have h2' : (s == ls + 1) = true := by simpa using h2
        clear h2 h1
        go_enter Try.func22, Try.ntmps22
        go_wp2
        go_ret
        exact ⟨rfl, HB.out⟩
      · rw [next_no (fun h => h1 h.2) (by omega)]
        have h2' : (s == ls + 1) = false := by simpa using h2
        have h3 : decide (e < e) = false := by simp
        clear h2 h1
        go_enter Try.func22, Try.ntmps22
        go_wp2
        go_ret
        exact ⟨rfl, HB.out⟩
  · have he' : (e == le) = false := by simpa using he
    by_cases h1 : le < e
    · by_cases h2 : s = 1
      · rw [next_take (fun h => he h.1) (.inr ⟨h1, h2⟩)]
        subst h2
        clear he
        go_enter Try.func22, Try.ntmps22
        go_wp2
        go_ret
        exact ⟨rfl, HB.out⟩
      · rw [next_no (fun h => he h.1) (by omega)]
        have h2' : (s == 1) = false := by simpa using h2
        clear he h2
        go_enter Try.func22, Try.ntmps22
        go_wp2
        go_ret
        exact ⟨rfl, HB.out⟩
    · rw [next_no (fun h => he h.1) (by omega)]
      have h1' : decide (le < e) = false := by simpa using h1
      clear he h1
      go_enter Try.func22, Try.ntmps22
      go_wp2
      go_ret
      exact ⟨rfl, HB.out⟩
end Go.Proofs.Ytcnmkojlledipaa.Mr
