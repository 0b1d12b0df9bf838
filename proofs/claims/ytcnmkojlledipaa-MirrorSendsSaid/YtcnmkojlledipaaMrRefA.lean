/-
  The document's own sender: Add.
-/
import Derived.Test.YtcnmkojlledipaaMrRefS
namespace Go.Proofs.Ytcnmkojlledipaa.Mr
open Go.RowKit
set_option linter.unusedVariables false
set_option linter.unusedSimpArgs false
set_option maxRecDepth 100000

theorem top_at {w : World} {o : Obj} {n : Nat} (h : w.heap.size = n) : (w.alloc o).heap[n]? = some o := by subst h; exact heap_alloc_new w o
theorem deep_at {w : World} {o : Obj} {n : Nat} (h : n < w.heap.size) : (w.alloc o).heap[n]? = w.heap[n]? := Below.heap_alloc w o n h
theorem drew_at (w : World) (n : Nat) : w.drew.heap[n]? = w.heap[n]? := rfl
theorem own_in {s : Option Addr} {n c k : Nat} (h : (Value.slice s n c).ownBlock = some k) : ∃ x, s = some x ∧ x.block = k := by
  cases s with
  | none => simp [Value.ownBlock] at h
  | some q => simp [Value.ownBlock] at h; exact ⟨q, rfl, h⟩
section
variable {w : World} {p : Nat} {B A : Int} {a : Option Addr} {xs : List It}

theorem radd_full (h : RAt w p B A a xs) (x : It) (hx : ¬ B + (xs.length : Int) < 4611686018427387904) : Calls Try.prog 13 #[.pointer (some ⟨p, 0, none⟩), itV x] w fun e w' => e = .returned (.tuple #[.int .i64 0, .int .i64 23]) ∧ Below w.heap.size w w' := by
  obtain ⟨q1, q2, q3, q4, q5⟩ := x
  have hb1 := (Below.refl w.heap.size w).alloc (Nat.le_refl _) (.cells #[.int .i64 q1, .int .i64 q2, .string q3, .int .i64 q4, .int .i64 q5] 29)
  have HF := Lib.hid (rlast_any (h.below hb1 (Nat.le_refl _)))
  have HB := Lib.hid hb1
  have hI : (4611686018427387904 : Int) ≤ B + (xs.length : Int) := by omega
  simp only [itV]
  clear h hx hb1
  go_enter Try.func13, Try.ntmps13
  go_wp2_with (go_at_call 20; with_reducible refine HF.out.mono ?_; rintro e w' ⟨rfl, q, rfl⟩)
  go_ret2
  exact ⟨rfl, HB.out.drewB _⟩

/-- a store of a row of its own makes the sender -/
theorem after_store {w w4 : World} {a4 : Option Addr} {cap4 : Nat} {ys : List It} (h : RAt w p B A a xs) (hb : Below w.heap.size w w4) (o4 : OwnI w4 a4 cap4 (numb B ys)) (f4 : Fresh w.heap.size a4) (hl : xs.length ≤ ys.length) (hm : B + (ys.length : Int) ≤ 4611686018427387904) :
    RAt (w4.setCell ⟨p, 0, none⟩ (.slice a4 ys.length cap4)) p B A a4 ys ∧ But [p] w (w4.setCell ⟨p, 0, none⟩ (.slice a4 ys.length cap4)) := by
  obtain ⟨cap0, hp, o, hA, hL⟩ := h
  have hp1 := lt_of_heap hp
  have hp4 : w4.heap[p]? = some (.cells #[.slice a xs.length cap0, .int .i64 B, .int .i64 A] tR (0, 0)) := by rw [hb.block p hp1]; exact hp
  have hse : (w4.setCell ⟨p, 0, none⟩ (.slice a4 ys.length cap4)).heap[p]? = some (.cells #[.slice a4 ys.length cap4, .int .i64 B, .int .i64 A] tR (0, 0)) := by
    simp [World.setCell, Array.getElem?_modify, hp4]
  refine ⟨⟨cap4, hse, ?_, by omega, hm⟩, ((But.refl [p] w).below hb (Nat.le_refl _)).set _ (.inl (by simp))⟩
  rcases o4 with ⟨e1, e2, e3⟩ | ⟨g, off, cur, e1, e2, e3⟩
  · exact .inl ⟨e1, e2, e3⟩
  · refine .inr ⟨g, off, cur, e1, ?_, e3⟩
    have : w.heap.size ≤ g := f4 _ e1
    rw [Below.heap_setCell _ _ _ _ (by show g ≠ p; omega)]
    exact e2

set_option maxHeartbeats 4000000 in
theorem radd_ok (h : RAt w p B A a xs) (x : It) (hx : B + (xs.length : Int) < 4611686018427387904) (hl : xs.length < 90000) : Calls Try.prog 13 #[.pointer (some ⟨p, 0, none⟩), itV x] w fun e w' => e = .returned (.tuple #[.int .i64 (B + (xs.length : Int) + 1), .int .i64 0]) ∧
    ∃ a', RAt w' p B A a' (xs ++ [x]) ∧ Fresh w.heap.size a' ∧ But [p] w w' := by
  have hnx := numb_add B xs x
  obtain ⟨q1, q2, q3, q4, q5⟩ := x
  have hb1 := (Below.refl w.heap.size w).alloc (Nat.le_refl _) (.cells #[.int .i64 q1, .int .i64 q2, .string q3, .int .i64 q4, .int .i64 q5] 29)
  have HF : Hid (∀ n, Calls Try.prog 20 #[.pointer (some ⟨p, 0, none⟩)] ((w.alloc (.cells #[.int .i64 q1, .int .i64 q2, .string q3, .int .i64 q4, .int .i64 q5] 29)).drewN n) fun e w' => e = .returned (.int .i64 (B + (xs.length : Int))) ∧ ∃ q, w' = ((w.alloc (.cells #[.int .i64 q1, .int .i64 q2, .string q3, .int .i64 q4, .int .i64 q5] 29)).drewN n).drewN q) := Lib.hid fun n => rlast_any (h.below (hb1.drewB n) (Nat.le_refl _))
  have HF0 := Lib.hid (rlast_any (h.below hb1 (Nat.le_refl _)))
  have HB := Lib.hid hb1
  have HX := Lib.hid (And.intro hx hl)
  have hI : decide ((4611686018427387904 : Int) ≤ B + (xs.length : Int)) = false := by simp; omega
  have hn := h.nums
  have h0 : (0 : Int) ≤ B + (xs.length : Int) := by omega
  have hw : IntKind.i64.wrap (B + (xs.length : Int) + 1) = B + (xs.length : Int) + 1 := IntWalk.i64_in _ (by omega)
  obtain ⟨cap, hc, hcB, hcA, hf, hf2, ho, hk1, hk2⟩ := h.cell
  have HRd : Hid (∀ W, Below w.heap.size w W → Rd W a xs.length (numb B xs)) := Lib.hid fun W hb => by
    have := ho.rd.below hb (Nat.le_refl _)
    rwa [numb_length] at this
  have HCell : Hid (∀ W, Below w.heap.size w W → W.cell? ⟨p, 0, none⟩ = some (.slice a xs.length cap) ∧ W.frozen? ⟨p, 0, none⟩ = false) := Lib.hid fun W hb => ⟨(hb.cell (p := ⟨p, 0, none⟩) h.lt).trans hc, (hb.frozen (p := ⟨p, 0, none⟩) h.lt).trans hf⟩
  have HH := Lib.hid h
  have HNX := Lib.hid hnx
  simp only [itV]
  clear h hx hb1 hl ho hnx hc hcB hcA hf hf2
  go_enter Try.func13, Try.ntmps13
  go_wp2_with (first
    | (go_at_call 20; with_reducible refine HF0.out.mono ?_; rintro e w' ⟨rfl, d1, rfl⟩)
    | (go_at_call 20; with_reducible refine (HF.out _).mono ?_; rintro e w' ⟨rfl, d2, rfl⟩))
  obtain ⟨s, hs⟩ : ∃ s, s = B + (xs.length : Int) + 1 := ⟨_, rfl⟩
  have G : ∀ W, W = (((w.alloc (.cells #[.int .i64 q1, .int .i64 q2, .string q3, .int .i64 q4, .int .i64 q5] 29)).drewN (d1 + d2)).setCell ⟨w.heap.size, 0, none⟩ (.int .i64 s)) →
      Below w.heap.size w W ∧ W.heap.size = w.heap.size + 1 ∧ W.heap[w.heap.size]? = some (.cells #[.int .i64 s, .int .i64 q2, .string q3, .int .i64 q4, .int .i64 q5] 29 (0, 0)) := by
    rintro W rfl
    refine ⟨(HB.out.drewB _).setCell (p := ⟨w.heap.size, 0, none⟩) (Nat.le_refl _) _, by simp [World.setCell], ?_⟩
    have := heap_alloc_new w (.cells #[.int .i64 q1, .int .i64 q2, .string q3, .int .i64 q4, .int .i64 q5] 29)
    simp only [World.setCell, Array.getElem?_modify, if_pos]
    show Option.map _ ((w.alloc _).heap[w.heap.size]?) = _
    rw [this]
    rfl
  rw [← hs]
  have GW := G _ rfl
  have HS := Lib.hid hs
  clear G HF HF0 HB hs
  generalize (((w.alloc (.cells #[.int .i64 q1, .int .i64 q2, .string q3, .int .i64 q4, .int .i64 q5] 29)).drewN (d1 + d2)).setCell ⟨w.heap.size, 0, none⟩ (.int .i64 s)) = W1 at *
  obtain ⟨GB, GS, GH⟩ := GW
  have HB1 := Lib.hid GB
  have HK : Hid (∀ W, Below W1.heap.size W1 W → W.cell? ⟨p, 0, none⟩ = some (.slice a xs.length cap) ∧ W.cell? ⟨w.heap.size, 0, none⟩ = some (.int .i64 s) ∧ W.cell? ⟨w.heap.size, 1, none⟩ = some (.int .i64 q2) ∧ W.cell? ⟨w.heap.size, 2, none⟩ = some (.string q3) ∧ W.cell? ⟨w.heap.size, 3, none⟩ = some (.int .i64 q4) ∧ W.cell? ⟨w.heap.size, 4, none⟩ = some (.int .i64 q5)) := Lib.hid fun W hb => by
    have e := (hb.block _ (lt_of_heap GH)).trans GH
    refine ⟨(HCell.out W (GB.trans (hb.mono (by omega)))).1, ?_, ?_, ?_, ?_, ?_⟩ <;> simp [World.cell?, e]
  have HGS := Lib.hid GS
  have k0 := HK.out _ (Below.refl _ _)
  have k1 := HK.out _ ((Below.refl _ _).alloc (by simp) (.cells #[] 29))
  have k2 := HK.out _ ((Below.refl _ _).alloc (by simp) (.cells #[.int .i64 s, .int .i64 q2, .string q3, .int .i64 q4, .int .i64 q5] 29))
  have k3 := HK.out _ (((Below.refl _ _).alloc (by simp) (.cells #[] 29)).alloc (by simp; try omega) (.cells #[.int .i64 s, .int .i64 q2, .string q3, .int .i64 q4, .int .i64 q5] 29))
  have k4 := HK.out _ (((Below.refl _ _).alloc (by simp) (.cells #[.int .i64 s, .int .i64 q2, .string q3, .int .i64 q4, .int .i64 q5] 29)).alloc (by simp; try omega) (.cells #[] 29))
  obtain ⟨k0a, k0b, k0c, k0d, k0e, k0f⟩ := k0
  obtain ⟨k1a, k1b, k1c, k1d, k1e, k1f⟩ := k1
  obtain ⟨k2a, k2b, k2c, k2d, k2e, k2f⟩ := k2
  obtain ⟨k3a, k3b, k3c, k3d, k3e, k3f⟩ := k3
  obtain ⟨k4a, k4b, k4c, k4d, k4e, k4f⟩ := k4
  have hNL : (numb B xs).length = xs.length := numb_length _ _
  have HLs : Hid (0 + xs.length ≤ 100000 ∧ xs.length + 1 ≤ 100000) := Lib.hid (by have := HX.out; omega)
  have HM : Hid (∀ W5 a5 cap5, Below w.heap.size w W5 → OwnI W5 a5 cap5 (numb B xs ++ [⟨s, q2, q3, q4, q5⟩]) → Fresh w.heap.size a5 → RAt (W5.setCell ⟨p, 0, none⟩ (.slice a5 (xs.length + 1) cap5)) p B A a5 (xs ++ [⟨q1, q2, q3, q4, q5⟩]) ∧ But [p] w (W5.setCell ⟨p, 0, none⟩ (.slice a5 (xs.length + 1) cap5))) := Lib.hid fun W5 a5 cap5 hb o f => by
    have e : (xs ++ [(⟨q1, q2, q3, q4, q5⟩ : It)]).length = xs.length + 1 := by simp
    have := after_store (ys := xs ++ [⟨q1, q2, q3, q4, q5⟩]) HH.out hb (by rw [HNX.out]; simp only [It.no]; rw [← HS.out]; exact o) f (by rw [e]; omega) (by rw [e]; have := HX.out; push_cast; omega)
    rwa [e] at this
  have HNL := Lib.hid hNL
  clear GB GS GH hNL
  go_region_law
    (first
      | (refine step_append_I _ (by rfl) (.tmp 14) (.tmp 18) (by rfl) _ 0 0 [] (by rfl) rfl (own_at (by first | exact (drew_at _ _).trans (top_at (by simp; done)) | exact (drew_at _ _).trans ((deep_at (by simp)).trans (top_at (by simp; done))))) a xs.length cap (numb B xs) (by rfl) (HRd.out _ (by repeat (first | with_reducible exact HB1.out | refine Below.drew ?_ | refine Below.alloc ?_ (by have := HGS.out; simp; try omega) _))) HLs.out.1 ?_
         intro a4 cap4 w4 o4 gr4 n4
         have HB4 : Hid (Below W1.heap.size W1 w4) := Lib.hid (by
           refine Below.grown ?_ gr4 (by simp; try omega) (by intro k hk; simp [Value.ownBlock] at hk; omega)
           repeat (first | with_reducible exact Below.refl _ _ | refine Below.drew ?_ | refine Below.alloc ?_ (by simp; try omega) _))
         have O4 : Hid (OwnI w4 a4 cap4 (numb B xs)) := Lib.hid (by simpa using o4)
         have F4 : Hid (Fresh W1.heap.size a4) := Lib.hid (Fresh.anew (a := some ⟨_, 0, none⟩) (fun x hx => by injection hx with hx; subst hx; simp; try omega) n4 (by simp; try omega))
         have k9 := HK.out _ HB4.out
         obtain ⟨k9a, k9b, k9c, k9d, k9e, k9f⟩ := k9
         clear o4 n4)
      | (refine step_append_I _ (by rfl) (.tmp 19) (.tmp 21) (by rfl) a4 xs.length cap4 (numb B xs) (by rfl) HNL.out (by first | exact O4.out | exact O4.out.below ((Below.refl _ _).alloc (Nat.le_refl _) _) (Nat.le_refl _)) _ 1 1 [⟨s, q2, q3, q4, q5⟩] (by rfl) (rd_one (by first | exact heap_alloc_new _ _ | (refine (gr4.block _ (by simp; try omega) (by simp [Value.ownBlock])).trans ?_; first | exact (drew_at _ _).trans (top_at (by simp; done)) | exact (drew_at _ _).trans ((deep_at (by simp)).trans (top_at (by simp; done)))))) HLs.out.2 ?_
         intro a5 cap5 w5 o5 gr5 n5
         have HB5 : Hid (Below W1.heap.size W1 w5) := Lib.hid (by
           refine Below.grown ?_ gr5 (by have := HB4.out.size; simp at this ⊢; omega) (fun k hk => by obtain ⟨x, hx, hxk⟩ := own_in hk; rw [← hxk]; exact F4.out x hx)
           first | exact HB4.out | exact HB4.out.alloc (by have := HB4.out.size; simp at this ⊢; omega) _)
         have hb5 : Below w.heap.size w w5 := HB1.out.trans (HB5.out.mono (by have := HGS.out; omega))
         have F5 : Hid (Fresh w.heap.size a5) := Lib.hid ((F4.out.anew n5 (by have := HB4.out.size; simp at this ⊢; omega)).mono (by have := HGS.out; omega))
         have HA := Lib.hid (HM.out w5 a5 cap5 hb5 o5 F5.out)
         have p5 := (HCell.out w5 hb5).1
         have f5 := (HCell.out w5 hb5).2
         have m5 : (w5.setCell ⟨p, 0, none⟩ (.slice a5 (xs.length + 1) cap5)).cell? ⟨w.heap.size, 0, none⟩ = some (.int .i64 s) := by
           rw [World.cell?_of_block (w := w5) (Below.heap_setCell _ _ _ _ (by show w.heap.size ≠ p; have := HH.out.lt; omega))]
           exact (HK.out w5 HB5.out).2.1
         clear o5 gr5 n5 hb5))
  all_goals
    go_wp2
    go_ret2
    exact ⟨by simp [HS.out], a5, HA.out.1, F5.out, HA.out.2⟩
end
end Go.Proofs.Ytcnmkojlledipaa.Mr
