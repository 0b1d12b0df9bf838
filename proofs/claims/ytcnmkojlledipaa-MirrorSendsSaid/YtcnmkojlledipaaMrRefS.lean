/-
  The document's own sender: New, Last, Ack, Left.
-/
import Derived.Test.YtcnmkojlledipaaMrTwo
import Derived.Deep.RegionHeld3
namespace Go.Proofs.Ytcnmkojlledipaa.Mr
open Go.RowKit
set_option linter.unusedVariables false
set_option linter.unusedSimpArgs false
set_option maxRecDepth 20000
abbrev tR : TypeId := 41
/-- the document's own sender: all items ever, numbered from its base on -/
def RAt (w : World) (p : Nat) (B A : Int) (a : Option Addr) (xs : List It) : Prop :=
  ∃ cap, w.heap[p]? = some (.cells #[.slice a xs.length cap, .int .i64 B, .int .i64 A] tR (0, 0)) ∧ OwnI w a cap (numb B xs) ∧ (0 ≤ B ∧ B ≤ A ∧ A ≤ B + (xs.length : Int)) ∧ B + (xs.length : Int) ≤ 4611686018427387904
section
variable {w w' : World} {p : Nat} {B A : Int} {a : Option Addr} {xs : List It}
theorem RAt.lt (h : RAt w p B A a xs) : p < w.heap.size := by obtain ⟨_, h, _⟩ := h; exact lt_of_heap h
theorem RAt.ltb (h : RAt w p B A a xs) : blk p a < w.heap.size := by obtain ⟨_, h1, h2, _⟩ := h; exact h2.lt (lt_of_heap h1)
theorem RAt.nums (h : RAt w p B A a xs) : (0 ≤ B ∧ B ≤ A ∧ A ≤ B + (xs.length : Int)) ∧ B + (xs.length : Int) ≤ 4611686018427387904 := by obtain ⟨_, _, _, h⟩ := h; exact h
theorem RAt.of_block (h : RAt w p B A a xs) (h1 : w'.heap[p]? = w.heap[p]?) (h2 : w'.heap[blk p a]? = w.heap[blk p a]?) : RAt w' p B A a xs := by
  obtain ⟨cap, g, o, k⟩ := h
  exact ⟨cap, h1.trans g, o.of_block h2, k⟩
theorem RAt.but (h : RAt w p B A a xs) {q : List Nat} (hb : But q w w') (h1 : p ∉ q) (h2 : blk p a ∉ q) : RAt w' p B A a xs := h.of_block (hb.block _ h.lt h1) (hb.block _ h.ltb h2)
theorem RAt.below (h : RAt w p B A a xs) {D : Nat} (hb : Below D w w') (hB : w.heap.size ≤ D) : RAt w' p B A a xs :=
  h.of_block (hb.block _ (by have := h.lt; omega)) (hb.block _ (by have := h.ltb; omega))
theorem RAt.lts (h : RAt w p B A a xs) : ∀ x ∈ [p, blk p a], x < w.heap.size := by
  intro x hx
  simp at hx
  rcases hx with rfl | rfl
  · exact h.lt
  · exact h.ltb
theorem RAt.keep (h : RAt w p B A a xs) {M : List Nat} (hb : But M w w') (hd : Dis M [p, blk p a]) : RAt w' p B A a xs :=
  h.but hb (fun hm => hd _ hm (by simp)) (fun hm => hd _ hm (by simp))
theorem RAt.cell (h : RAt w p B A a xs) : ∃ cap, w.cell? ⟨p, 0, none⟩ = some (.slice a xs.length cap) ∧ w.cell? ⟨p, 1, none⟩ = some (.int .i64 B) ∧ w.cell? ⟨p, 2, none⟩ = some (.int .i64 A) ∧ w.frozen? ⟨p, 0, none⟩ = false ∧ w.frozen? ⟨p, 2, none⟩ = false ∧ OwnI w a cap (numb B xs) ∧ xs.length ≤ cap ∧ cap ≤ maxLen := by
  obtain ⟨cap, g, o, k⟩ := h
  have := o.cap
  rw [numb_length] at this
  exact ⟨cap, by simp [World.cell?, g], by simp [World.cell?, g], by simp [World.cell?, g], by simp [World.frozen?, g], by simp [World.frozen?, g], o, this⟩
end

theorem rnew_any (w : World) (b : Int) : Calls Try.prog 11 #[.int .i64 b] w fun e w' => e = .returned (.pointer (some ⟨w.heap.size, 0, none⟩)) ∧ RAt w' w.heap.size (base b) (base b) none [] ∧ Below w.heap.size w w' := by
  have hs : ∀ x : Int, 0 ≤ x → x ≤ 4611686018427387904 → RAt (w.alloc (.cells #[.slice none 0 0, .int .i64 x, .int .i64 x] 41)) w.heap.size x x none [] := fun x h1 h2 => ⟨0, heap_alloc_new w _, OwnI.nil _, by simpa using h1, by simpa using h2⟩
  have hb := (Below.refl w.heap.size w).alloc (Nat.le_refl _)
  have HS := Lib.hid hs
  have HB := Lib.hid hb
  clear hs hb
  by_cases h : b < 0
  · have e : base b = 0 := by unfold base; rw [if_pos h]
    rw [e]
    clear e
    go_enter Try.func11, Try.ntmps11
    go_wp2
    go_ret
    exact ⟨rfl, HS.out 0 (by omega) (by omega), HB.out _⟩
  · have hd : decide (b < 0) = false := by simpa using h
    by_cases h2 : 4611686018427387904 < b
    · have e : base b = 4611686018427387904 := by unfold base; rw [if_neg h, if_pos h2]
      rw [e]
      clear e
      go_enter Try.func11, Try.ntmps11
      go_wp2
      go_ret
      exact ⟨rfl, HS.out _ (by omega) (by omega), HB.out _⟩
    · have e : base b = b := by unfold base; rw [if_neg h, if_neg h2]
      have hd2 : decide (4611686018427387904 < b) = false := by simpa using h2
      rw [e]
      have HI := Lib.hid (And.intro h h2)
      clear e h h2
      go_enter Try.func11, Try.ntmps11
      go_wp2
      go_ret
      exact ⟨rfl, HS.out _ (by have := HI.out; omega) (by have := HI.out; omega), HB.out _⟩

theorem rlast_any {w : World} {p : Nat} {B A : Int} {a : Option Addr} {xs : List It} (h : RAt w p B A a xs) :
    Calls Try.prog 20 #[.pointer (some ⟨p, 0, none⟩)] w fun e w' => e = .returned (.int .i64 (B + (xs.length : Int))) ∧ ∃ q, w' = w.drewN q := by
  obtain ⟨cap, c0, c1, c2, f0, f2, ho, k1, k2⟩ := h.cell
  obtain ⟨⟨h0, _, _⟩, h1⟩ := h.nums
  have hn : (0 : Int) ≤ (xs.length : Int) := by omega
  have hw : IntKind.i64.wrap (B + (xs.length : Int)) = B + (xs.length : Int) := IntWalk.i64_in _ (by omega)
  clear h ho
  go_enter Try.func20, Try.ntmps20
  go_wp2
  go_quiet (fail)
  go_wp2
  go_ret
  exact ⟨rfl, nq, rfl⟩

theorem rack_no {w : World} {p : Nat} {B A : Int} {a : Option Addr} {xs : List It} (h : RAt w p B A a xs) (q : Int) (hq : q ≤ A ∨ (A < q ∧ B + (xs.length : Int) < q)) :
    Calls Try.prog 15 #[.pointer (some ⟨p, 0, none⟩), .int .i64 q] w fun e w' => e = .returned (.bool false) ∧ ∃ n, w' = w.drewN n := by
  obtain ⟨cap, c0, c1, c2, f0, f2, ho, k1, k2⟩ := h.cell
  have HF := Lib.hid (rlast_any h)
  clear h ho
  rcases hq with hq | ⟨hq, hq2⟩
  · have hd : decide (A < q) = false := by simp; omega
    clear hq
    go_enter Try.func15, Try.ntmps15
    go_wp2
    go_ret
    exact ⟨rfl, 0, rfl⟩
  · have hd : decide (q ≤ B + (xs.length : Int)) = false := by simp; omega
    clear hq2
    go_enter Try.func15, Try.ntmps15
    go_wp2_with (go_at_call 20; with_reducible refine HF.out.mono ?_; rintro e w' ⟨rfl, n, rfl⟩)
    go_ret
    exact ⟨rfl, n, rfl⟩
theorem rack_yes {w : World} {p : Nat} {B A : Int} {a : Option Addr} {xs : List It} (h : RAt w p B A a xs) (q : Int) (hq : A < q) (hq2 : q ≤ B + (xs.length : Int)) :
    Calls Try.prog 15 #[.pointer (some ⟨p, 0, none⟩), .int .i64 q] w fun e w' => e = .returned (.bool true) ∧ RAt w' p B q a xs ∧ But [p] w w' := by
  obtain ⟨cap, c0, c1, c2, f0, f2, ho, k1, k2⟩ := h.cell
  have HF := Lib.hid (rlast_any h)
  have HH := Lib.hid h
  have HQ := Lib.hid (And.intro hq hq2)
  clear h ho
  go_enter Try.func15, Try.ntmps15
  go_wp2_with (go_at_call 20; with_reducible refine HF.out.mono ?_; rintro e w' ⟨rfl, n, rfl⟩)
  go_ret
  obtain ⟨cap', hp, o, hA, hL⟩ := HH.out
  have hne := row_ne o hp (by decide)
  refine ⟨rfl, ⟨cap', by simp [World.setCell, Array.getElem?_modify, hp], ?_, ⟨hA.1, by have := HQ.out; omega, HQ.out.2⟩, hL⟩, ((But.refl [p] w).drewN n).set _ (.inl (by simp))⟩
  rcases hne with rfl | hne
  · rcases o with ⟨_, e1, e2⟩ | ⟨_, _, _, e, _⟩
    · exact .inl ⟨rfl, e1, e2⟩
    · cases e
  · exact o.of_block (p := p) (Below.heap_setCell (w.drewN n) _ _ _ hne)

/-- Left: the items above what was acked -/
theorem left_step {B : Int} {xs : List It} {i k : Nat} {x : It} (hx : (numb B xs)[i]? = some x) : ((numb B xs).take (i + 1)).drop k = if k ≤ i then ((numb B xs).take i).drop k ++ [x] else [] := by
  have hi := (List.getElem?_eq_some_iff.1 hx).1
  split
  · rename_i h
    rw [List.take_add_one, hx, Option.toList_some, List.drop_append_of_le_length (by rw [List.length_take]; omega)]
  · rename_i h
    exact List.drop_eq_nil_of_le (by rw [List.length_take]; omega)

set_option maxHeartbeats 2000000 in
theorem rleft_any {w : World} {p : Nat} {B : Int} {k : Nat} {a : Option Addr} {xs : List It} (h : RAt w p B (B + (k : Int)) a xs) (hl : xs.length ≤ 90000) :
    Calls Try.prog 18 #[.pointer (some ⟨p, 0, none⟩)] w fun e w' => ∃ a' cap', e = .returned (.slice a' (xs.length - k) cap') ∧ OwnI w' a' cap' (numb (B + (k : Int)) (xs.drop k)) ∧ Fresh w.heap.size a' ∧ Below w.heap.size w w' := by
  obtain ⟨cap, c0, c1, c2, f0, f2, ho, k1, k2⟩ := h.cell
  obtain ⟨⟨h0, h1, h2⟩, h3⟩ := h.nums
  have HR := Lib.hid ho.rd
  have HP : Hid (∀ W, Below w.heap.size w W → W.cell? ⟨p, 0, none⟩ = some (.slice a xs.length cap) ∧ W.cell? ⟨p, 2, none⟩ = some (.int .i64 (B + (k : Int)))) := Lib.hid fun W hb => ⟨(hb.cell (p := ⟨p, 0, none⟩) h.lt).trans c0, (hb.cell (p := ⟨p, 2, none⟩) h.lt).trans c2⟩
  have HN := Lib.hid (show k ≤ xs.length ∧ xs.length ≤ 90000 by omega)
  have hx62 : B + (xs.length : Int) ≤ 4611686018427387904 := h3
  have hxI : (xs.length : Int) ≤ 90000 := by omega
  clear h ho h1 h2 h3 hl c0 c1 c2
  go_enter Try.func18, Try.ntmps18
  go_wp2
  go_loopw [3, 4] (fun ov iv wz => ∃ (i : Nat) (a' : Option Addr) (cap' : Nat), i ≤ xs.length ∧ ov = .slice a' (i - k) cap' ∧ iv = .int .i64 (i : Int) ∧ OwnI wz a' cap' (((numb B xs).take i).drop k) ∧ Fresh w.heap.size a' ∧ Below w.heap.size w wz) (fun _ iv _ => xs.length - (intOf iv).toNat)
  case atStart => exact ⟨0, _, _, by omega, by rw [Nat.zero_sub], rfl, by simpa using own_empty w, fun x hx => by injection hx with hx; subst hx; exact Nat.le_refl _, (Below.refl _ _).alloc (Nat.le_refl _) _⟩
  case round =>
    obtain ⟨i, a', cap', hi, rfl, rfl, hO, hF, hB⟩ := hrel
    have HO := Lib.hid hO
    have HF := Lib.hid hF
    have HB := Lib.hid hB
    clear hO hF hB
    have q0 := (HP.out _ HB.out).1
    have q2 := (HP.out _ HB.out).2
    by_cases hlt : i < xs.length
    · have hltI : (i : Int) < (xs.length : Int) := by omega
      obtain ⟨y, hy⟩ : ∃ y, xs[i]? = some y := ⟨_, List.getElem?_eq_getElem hlt⟩
      have hx := numb_get B xs i y hy
      have hs := left_step (k := k) hx
      obtain ⟨us, ub, ud, uc, un⟩ := y
      obtain ⟨b, off, rfl, hb, c0, c1, c2, c3, c4⟩ := (HR.out.below HB.out (Nat.le_refl _)).at hx
      simp only [It.no] at c0 c1 c2 c3 c4
      have HS := Lib.hid hs
      have HX := Lib.hid hx
      clear hs hx hy
      by_cases hki : k ≤ i
      · have hd : B + (k : Int) < B + (i : Int) + 1 := by omega
        have hd' : decide (B + (k : Int) < B + (i : Int) + 1) = true := by simpa using hd
        have hS := HS.out
        rw [if_pos hki] at hS
        have HS1 := Lib.hid hS
        have HL : Hid ((((numb B xs).take i).drop k).length = i - k) := Lib.hid (by rw [List.length_drop, List.length_take, numb_length]; omega)
        have HIK := Lib.hid hki
        clear hS HS
        go_wp2
        go_quiet (fail)
        go_wp2_with (at_builtin
                     refine wpList_append_I _ rfl (.tmp 28) (.tmp 36) rfl a' (i - k) cap' _ rfl HL.out (HO.out.below (B := wr.heap.size) (((Below.refl _ _).drewB nq).alloc (Nat.le_refl _) _) (Nat.le_refl _)) _ 1 1 [⟨B + (i : Int) + 1, ub, ud, uc, un⟩] rfl (rd_one (heap_alloc_new (wr.drewN nq) _)) (by have := HN.out; omega) ?_
                     intro a5 cap5 w5 o5 g5 n5
                     have O5 := Lib.hid o5
                     have G5 := Lib.hid g5
                     have N5 := Lib.hid n5
                     clear o5 g5 n5)
        go_roundw
        case rel =>
          refine ⟨i + 1, a5, cap5, by omega, ?_, by go_num, ?_, ?_, ?_⟩
          · rw [show i + 1 - k = i - k + 1 by have := HIK.out; omega]
          · rw [HS1.out]; exact O5.out
          · exact HF.out.anew N5.out (by have := HB.out.size; simp; omega)
          · refine Below.grown ((HB.out.drewB nq).alloc (by have := HB.out.size; exact this) _) G5.out (by have := HB.out.size; simp; omega) fun q hq => ?_
            cases a' with
            | none => simp [Value.ownBlock] at hq
            | some z => simp [Value.ownBlock] at hq; rw [← hq]; exact HF.out z rfl
        case measure => simp [intOf]; omega
      · have hd : decide (B + (k : Int) < B + (i : Int) + 1) = false := by simp; omega
        have hS := HS.out
        rw [if_neg hki] at hS
        have HS1 := Lib.hid hS
        have HIK := Lib.hid hki
        clear hS HS
        go_wp2
        go_quiet (fail)
        go_wp2
        go_roundw
        case rel =>
          refine ⟨i + 1, a', cap', by omega, ?_, by go_num, ?_, HF.out, HB.out.drewB _⟩
          · rw [show i + 1 - k = i - k by have := HIK.out; omega]
          · have := HO.out
            rw [List.drop_eq_nil_of_le (by rw [List.length_take]; have := HIK.out; omega)] at this
            rw [HS1.out]
            exact this.drew _
        case measure => simp [intOf]; omega
    · have hil : i = xs.length := by omega
      subst hil
      clear hlt
      go_wp2
      go_ret
      refine ⟨a', cap', rfl, ?_, HF.out, HB.out⟩
      have := HO.out
      rwa [List.take_of_length_le (by rw [numb_length]; exact Nat.le_refl _), numb_drop] at this
end Go.Proofs.Ytcnmkojlledipaa.Mr
