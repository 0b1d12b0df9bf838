/-
  A sender: Add.
-/
import Derived.Test.YtcnmkojlledipaaMrSnd
import Derived.Deep.RegionHeld3
namespace Go.Proofs.Ytcnmkojlledipaa.Mr
open Go.RowKit
set_option linter.unusedVariables false
set_option linter.unusedSimpArgs false
set_option maxRecDepth 20000
theorem _root_.Go.RowKit.Below.drewB {B : Nat} {a w : World} (h : Below B a w) (n : Nat) : Below B a (w.drewN n) := h.trans ⟨rfl, rfl, rfl, Nat.le_refl _, fun _ _ => rfl⟩
section
variable {w : World} {p : Nat} {A : Int} {a : Option Addr} {l : List It}

theorem add_full (h : SAt w p A a l) (x : It) (hx : ¬ last A l < 4611686018427387904) : Calls Try.prog 12 #[.pointer (some ⟨p, 0, none⟩), itV x] w fun e w' => e = .returned (.tuple #[.int .i64 0, .int .i64 23]) ∧ Below w.heap.size w w' := by
  obtain ⟨q1, q2, q3, q4, q5⟩ := x
  have hb1 := (Below.refl w.heap.size w).alloc (Nat.le_refl _) (.cells #[.int .i64 q1, .int .i64 q2, .string q3, .int .i64 q4, .int .i64 q5] 29)
  have HF := Lib.hid (last_any (h.below hb1 (Nat.le_refl _)))
  have HB := Lib.hid hb1
  simp only [last] at hx
  have hI : (4611686018427387904 : Int) ≤ A + (l.length : Int) := by omega
  simp only [itV]
  clear h hx hb1
  go_enter Try.func12, Try.ntmps12
  go_wp2_with (go_at_call 19; with_reducible refine HF.out.mono ?_; rintro e w' ⟨rfl, q, rfl⟩)
  go_ret2
  exact ⟨rfl, HB.out.drewB _⟩

/-- behind an append to the sender's row: the sender's own block is as it was, and a store of the row makes the sender -/
theorem after_append {w W w4 : World} {p : Nat} {A : Int} {a a4 : Option Addr} {n cap cap4 : Nat} {l m : List It} (h : SAt w p A a l) (hb : Below w.heap.size w W) (o4 : OwnI w4 a4 cap4 m) (g : W.grownBy w4 (Value.slice a n cap).ownBlock) (an : Anew W a a4) (hm : last A m ≤ 4611686018427387904) :
    w4.cell? ⟨p, 1, none⟩ = w.cell? ⟨p, 1, none⟩ ∧ w4.frozen? ⟨p, 1, none⟩ = false ∧ SAt (w4.setCell ⟨p, 1, none⟩ (.slice a4 m.length cap4)) p A a4 m ∧ Anew w a a4 ∧ But [p, blk p a] w (w4.setCell ⟨p, 1, none⟩ (.slice a4 m.length cap4)) ∧ ∀ k, w.heap.size ≤ k → k < W.heap.size → (w4.setCell ⟨p, 1, none⟩ (.slice a4 m.length cap4)).heap[k]? = W.heap[k]? := by
  obtain ⟨cap0, hp, o, hA, hl⟩ := h
  have hp1 := lt_of_heap hp
  have hne : a = none ∨ blk p a ≠ p := row_ne o hp (by decide)
  have hsz := hb.size
  have hrow : some p ≠ (Value.slice a n cap).ownBlock := by
    intro e
    cases a with
    | none => simp [Value.ownBlock] at e
    | some q => simp [Value.ownBlock] at e; simp [blk] at hne; exact hne e.symm
  have hp4 : w4.heap[p]? = some (.cells #[.int .i64 A, .slice a l.length cap0] tS (0, 0)) := by rw [g.block p (by omega) hrow, hb.block p hp1]; exact hp
  have hs : (w4.setCell ⟨p, 1, none⟩ (.slice a4 m.length cap4)).heap[p]? = some (.cells #[.int .i64 A, .slice a4 m.length cap4] tS (0, 0)) := by
    simp [World.setCell, Array.getElem?_modify, hp4]
  have an' : Anew w a a4 := an.more hsz
  have hne4 : a4 = none ∨ blk p a4 ≠ p := row_ne o4 hp4 (by decide)
  refine ⟨by simp [World.cell?, hp4, hp], by simp [World.frozen?, hp4], ⟨cap4, hs, ?_, hA, hm⟩, an', ?_, fun k hk hk2 => ?_⟩
  · rcases hne4 with rfl | hne4
    · rcases o4 with ⟨_, h2, h3⟩ | ⟨_, _, _, h, _⟩
      · exact .inl ⟨rfl, h2, h3⟩
      · cases h
    · exact o4.of_block (p := p) (Below.heap_setCell _ _ _ _ hne4)
  · refine ((((But.refl [p, blk p a] w).below hb (Nat.le_refl _)).grown g fun k hk => ?_)).set _ (.inl (by simp))
    exact .inl (by rw [own_row (p := p) hk]; simp)
  · rw [Below.heap_setCell _ _ _ _ (by show k ≠ p; omega)]
    refine g.block k hk2 fun e => ?_
    have := o.lt (p := p) hp1
    rw [own_row (p := p) e.symm] at hk
    omega

set_option maxHeartbeats 1000000 in
theorem add_ok (h : SAt w p A a l) (x : It) (hx : last A l < 4611686018427387904) (hl : l.length < 100000) : Calls Try.prog 12 #[.pointer (some ⟨p, 0, none⟩), itV x] w fun e w' => e = .returned (.tuple #[.int .i64 (last A l + 1), .int .i64 0]) ∧
    ∃ a', SAt w' p A a' (l ++ [x.no (last A l + 1)]) ∧ Anew w a a' ∧ But [p, blk p a] w w' := by
  obtain ⟨q1, q2, q3, q4, q5⟩ := x
  have hb1 := (Below.refl w.heap.size w).alloc (Nat.le_refl _) (.cells #[.int .i64 q1, .int .i64 q2, .string q3, .int .i64 q4, .int .i64 q5] 29)
  have HF := Lib.hid (last_any (h.below hb1 (Nat.le_refl _)))
  have HB := Lib.hid hb1
  have HX := Lib.hid hx
  have HL := Lib.hid hl
  simp only [last] at hx ⊢
  have hI : decide ((4611686018427387904 : Int) ≤ A + (l.length : Int)) = false := by simp; omega
  have hn := h.nums
  have h0 : (0 : Int) ≤ A + (l.length : Int) := by omega
  have hw : IntKind.i64.wrap (A + (l.length : Int) + 1) = A + (l.length : Int) + 1 := IntWalk.i64_in _ (by omega)
  have HH := Lib.hid h
  simp only [itV]
  clear h hx hb1 hl
  go_enter Try.func12, Try.ntmps12
  go_wp2_with (go_at_call 19; with_reducible refine HF.out.mono ?_; rintro e w' ⟨rfl, q, rfl⟩)
  obtain ⟨s, hs⟩ : ∃ s, s = A + (l.length : Int) + 1 := ⟨_, rfl⟩
  have G : ∀ W, W = (((w.alloc (.cells #[.int .i64 q1, .int .i64 q2, .string q3, .int .i64 q4, .int .i64 q5] 29)).drewN q).setCell ⟨w.heap.size, 0, none⟩ (.int .i64 s)) →
      Below w.heap.size w W ∧ W.heap.size = w.heap.size + 1 ∧ W.heap[w.heap.size]? = some (.cells #[.int .i64 s, .int .i64 q2, .string q3, .int .i64 q4, .int .i64 q5] 29 (0, 0)) := by
    rintro W rfl
    refine ⟨(HB.out.drewB q).setCell (p := ⟨w.heap.size, 0, none⟩) (Nat.le_refl _) _, by simp [World.setCell], ?_⟩
    have := heap_alloc_new w (.cells #[.int .i64 q1, .int .i64 q2, .string q3, .int .i64 q4, .int .i64 q5] 29)
    simp only [World.setCell, Array.getElem?_modify, if_pos]
    rw [show (w.alloc (.cells #[.int .i64 q1, .int .i64 q2, .string q3, .int .i64 q4, .int .i64 q5] 29)).drewN q = _ from rfl]
    show Option.map _ ((w.alloc _).heap[w.heap.size]?) = _
    rw [this]
    rfl
  rw [← hs]
  have GW := G _ rfl
  have HS := Lib.hid hs
  clear G HF HB hs
  generalize (((w.alloc (.cells #[.int .i64 q1, .int .i64 q2, .string q3, .int .i64 q4, .int .i64 q5] 29)).drewN q).setCell ⟨w.heap.size, 0, none⟩ (.int .i64 s)) = W at *
  obtain ⟨GB, GS, GH⟩ := GW
  have c0 : W.cell? ⟨w.heap.size, 0, none⟩ = some (.int .i64 s) := by simp [World.cell?, GH]
  have c1 : W.cell? ⟨w.heap.size, 1, none⟩ = some (.int .i64 q2) := by simp [World.cell?, GH]
  have c2 : W.cell? ⟨w.heap.size, 2, none⟩ = some (.string q3) := by simp [World.cell?, GH]
  have c3 : W.cell? ⟨w.heap.size, 3, none⟩ = some (.int .i64 q4) := by simp [World.cell?, GH]
  have c4 : W.cell? ⟨w.heap.size, 4, none⟩ = some (.int .i64 q5) := by simp [World.cell?, GH]
  obtain ⟨cap, d0, d1, f0, f1, ho, hk1, hk2⟩ := (HH.out.below GB (Nat.le_refl _)).cell
  have hb2 := GB.alloc GB.size (.cells #[.int .i64 s, .int .i64 q2, .string q3, .int .i64 q4, .int .i64 q5] 29)
  have e2 := heap_alloc_new W (.cells #[.int .i64 s, .int .i64 q2, .string q3, .int .i64 q4, .int .i64 q5] 29)
  have hc2 : (W.alloc (.cells #[.int .i64 s, .int .i64 q2, .string q3, .int .i64 q4, .int .i64 q5] 29)).cell? ⟨p, 1, none⟩ = some (.slice a l.length cap) := by
    rw [hb2.cell (p := ⟨p, 1, none⟩) HH.out.lt, ← GB.cell (p := ⟨p, 1, none⟩) HH.out.lt]; exact d1
  have HC : Hid (w.cell? ⟨p, 1, none⟩ = some (.slice a l.length cap)) := Lib.hid (by rw [← d1]; exact (GB.cell (p := ⟨p, 1, none⟩) HH.out.lt).symm)
  have HO : Hid (OwnI (W.alloc (.cells #[.int .i64 s, .int .i64 q2, .string q3, .int .i64 q4, .int .i64 q5] 29)).drew a cap l) := Lib.hid ((ho.below ((Below.refl _ _).alloc (Nat.le_refl _) (.cells #[.int .i64 s, .int .i64 q2, .string q3, .int .i64 q4, .int .i64 q5] 29)) (Nat.le_refl _)).drew 1)
  have HR : Hid (Rd (W.alloc (.cells #[.int .i64 s, .int .i64 q2, .string q3, .int .i64 q4, .int .i64 q5] 29)).drew (some ⟨W.heap.size, 0, none⟩) 1 [⟨s, q2, q3, q4, q5⟩]) := Lib.hid (rd_one (w := (W.alloc _).drew) (x := ⟨s, q2, q3, q4, q5⟩) e2)
  have HB2 := Lib.hid hb2
  have HGH := Lib.hid GH
  have HGS := Lib.hid GS
  have HKB := Lib.hid GB
  have HZ : Hid (w.heap.size < (W.alloc (.cells #[.int .i64 s, .int .i64 q2, .string q3, .int .i64 q4, .int .i64 q5] 29)).drew.heap.size ∧ (W.alloc (.cells #[.int .i64 s, .int .i64 q2, .string q3, .int .i64 q4, .int .i64 q5] 29)).drew.heap[w.heap.size]? = W.heap[w.heap.size]?) := Lib.hid ⟨by simp; omega, Below.heap_alloc _ _ _ (by omega)⟩
  have HZ2 : Hid ((l ++ [(⟨s, q2, q3, q4, q5⟩ : It)]).length = l.length + 1) := Lib.hid (by simp)
  clear GB GS GH ho e2 hb2
  have HLs : Hid (l.length + 1 ≤ 100000) := Lib.hid (by have := HL.out; omega)
  have HM : Hid (last A (l ++ [(⟨s, q2, q3, q4, q5⟩ : It)]) ≤ 4611686018427387904) := Lib.hid (by have := HX.out; unfold last at *; rw [List.length_append, List.length_singleton]; omega)
  go_region_law (have T := @step_append_I (W.alloc (.cells #[.int .i64 s, .int .i64 q2, .string q3, .int .i64 q4, .int .i64 q5] 29)).drew
                 refine T rfl (.tmp 18) (.tmp 20) rfl a l.length cap l rfl rfl HO.out (some ⟨W.heap.size, 0, none⟩) 1 1 [⟨s, q2, q3, q4, q5⟩] rfl HR.out HLs.out ?_
                 clear T
                 intro a4 cap4 w4 o4 g4 n4
                 have HA := Lib.hid (after_append HH.out (HB2.out.drew) o4 g4 n4 HM.out)
                 have p4 := HA.out.1.trans HC.out
                 have f4 := HA.out.2.1
                 have k4 : (w4.setCell ⟨p, 1, none⟩ (.slice a4 (l ++ [(⟨s, q2, q3, q4, q5⟩ : It)]).length cap4)).cell? ⟨w.heap.size, 0, none⟩ = some (.int .i64 s) := (World.cell?_of_block (w := W) ((HA.out.2.2.2.2.2 w.heap.size (Nat.le_refl _) HZ.out.1).trans HZ.out.2)).trans c0
                 rw [HZ2.out] at k4
                 clear o4 g4 n4)
  all_goals
    go_wp2
    go_ret2
    have := HA.out.2.2
    rw [HZ2.out] at this
    refine ⟨by simp [HS.out], a4, ?_, this.2.1, this.2.2.1⟩
    have e : (⟨q1, q2, q3, q4, q5⟩ : It).no (A + (l.length : Int) + 1) = ⟨s, q2, q3, q4, q5⟩ := by rw [HS.out]; rfl
    rw [e]
    exact this.1
end
end Go.Proofs.Ytcnmkojlledipaa.Mr
