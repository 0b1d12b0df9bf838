/-
  The document's own net: Send, whole.
-/
import Derived.Test.YthbgabmmfokioaaNtRef
import Derived.Deep.RegionHeld3
namespace Go.Proofs.Ythbgabmmfokioaa.Nt
open Go.RowKit
set_option linter.unusedVariables false
set_option linter.unusedSimpArgs false
set_option maxRecDepth 100000
section
variable {w : World} {p : Nat} {a : Option Addr} {l : List Lt}

theorem top_at {w : World} {o : Obj} {n : Nat} (h : w.heap.size = n) : (w.alloc o).heap[n]? = some o := by subst h; exact heap_alloc_new w o
theorem deep_at {w : World} {o : Obj} {n : Nat} (h : n < w.heap.size) : (w.alloc o).heap[n]? = w.heap[n]? := Below.heap_alloc w o n h
theorem drew_at (w : World) (n : Nat) : w.drew.heap[n]? = w.heap[n]? := rfl
theorem in_place {x : Int} (h : place x = true) : decide (x < 0) = false ∧ decide (7 < x) = false := by
  have := place_yes h
  simp; omega
theorem rsend_size (h : NAt tR w p a l) (x : Lt) (h1 : place x.fr = true) (h2 : place x.to = true) (h3 : x.fr ≠ x.to) (hx : 200 < x.body.size) : Calls Try.prog 12 #[.pointer (some ⟨p, 0, none⟩), ltV x] w fun e w' => e = .returned (.int .i64 3) ∧ Below w.heap.size w w' := by
  obtain ⟨fr, to, body⟩ := x
  simp only at hx h1 h2 h3
  have h3' : (fr == to) = false := by simpa using h3
  have hx' : (200 : Int) < (body.size : Int) := by omega
  obtain ⟨g1, g2⟩ := in_place h1
  obtain ⟨g3, g4⟩ := in_place h2
  simp only [ltV]
  clear h h1 h2 h3 hx
  go_enter Try.func12, Try.ntmps12
  go_wp2
  go_ret
  exact ⟨rfl, (Below.refl _ _).alloc (Nat.le_refl _) _⟩
theorem rsend_many (h : NAt tR w p a l) (x : Lt) (h1 : place x.fr = true) (h2 : place x.to = true) (h3 : x.fr ≠ x.to) (h4 : x.body.size ≤ 200) (hx : 300 ≤ l.length) : Calls Try.prog 12 #[.pointer (some ⟨p, 0, none⟩), ltV x] w fun e w' => e = .returned (.int .i64 5) ∧ Below w.heap.size w w' := by
  obtain ⟨fr, to, body⟩ := x
  simp only at h1 h2 h3 h4
  have h3' : (fr == to) = false := by simpa using h3
  have hx' : decide ((200 : Int) < (body.size : Int)) = false := by simp; omega
  obtain ⟨g1, g2⟩ := in_place h1
  obtain ⟨g3, g4⟩ := in_place h2
  have hb1 := (Below.refl w.heap.size w).alloc (Nat.le_refl _) (.cells #[.int .i64 fr, .int .i64 to, .string body] 31)
  obtain ⟨cap, hc, hf, ho, _⟩ := (h.below hb1 (Nat.le_refl _)).cell
  have hI : (300 : Int) ≤ (l.length : Int) := by omega
  simp only [ltV]
  clear h h1 h2 h3 h4 hx hb1 ho
  go_enter Try.func12, Try.ntmps12
  go_wp2
  go_ret
  exact ⟨rfl, (Below.refl _ _).alloc (Nat.le_refl _) _⟩

set_option maxHeartbeats 2000000 in
theorem rsend_ok (h : NAt tR w p a l) (x : Lt) (h1 : place x.fr = true) (h2 : place x.to = true) (h3 : x.fr ≠ x.to) (h4 : x.body.size ≤ 200) (hx : l.length < 300) : Calls Try.prog 12 #[.pointer (some ⟨p, 0, none⟩), ltV x] w fun e w' => e = .returned (.int .i64 0) ∧
    ∃ a', NAt tR w' p a' (l ++ [x]) ∧ Anew w a a' ∧ But [p, blk p a] w w' := by
  obtain ⟨fr, to, body⟩ := x
  simp only at h1 h2 h3 h4
  have h3' : (fr == to) = false := by simpa using h3
  have hx' : decide ((200 : Int) < (body.size : Int)) = false := by simp; omega
  obtain ⟨g1, g2⟩ := in_place h1
  obtain ⟨g3, g4⟩ := in_place h2
  have hb1 := (Below.refl w.heap.size w).alloc (Nat.le_refl _) (.cells #[.int .i64 fr, .int .i64 to, .string body] 31)
  obtain ⟨cap, hc, hf, ho, _⟩ := (h.below hb1 (Nat.le_refl _)).cell
  have HRd : Hid (∀ W, Below w.heap.size w W → Rd W a l.length l) := Lib.hid fun W hb => by
    obtain ⟨cap', _, _, ho', _⟩ := h.cell
    exact ho'.rd.below hb (Nat.le_refl _)
  have HCell : Hid (∀ W, Below w.heap.size w W → W.cell? ⟨p, 0, none⟩ = some (.slice a l.length cap) ∧ W.frozen? ⟨p, 0, none⟩ = false) := Lib.hid fun W hb => by
    obtain ⟨cap', hc', hf', ho', _⟩ := h.cell
    have e := hb1.cell (p := ⟨p, 0, none⟩) h.lt
    rw [hc] at e
    exact ⟨(hb.cell (p := ⟨p, 0, none⟩) h.lt).trans e.symm, (hb.frozen (p := ⟨p, 0, none⟩) h.lt).trans hf'⟩
  have HK : Hid (∀ W, Below (w.heap.size + 1) (w.alloc (.cells #[.int .i64 fr, .int .i64 to, .string body] 31)) W → W.cell? ⟨p, 0, none⟩ = some (.slice a l.length cap) ∧ W.cell? ⟨w.heap.size, 0, none⟩ = some (.int .i64 fr) ∧ W.cell? ⟨w.heap.size, 1, none⟩ = some (.int .i64 to) ∧ W.cell? ⟨w.heap.size, 2, none⟩ = some (.string body)) := Lib.hid fun W hb => by
    have hn := heap_alloc_new w (.cells #[.int .i64 fr, .int .i64 to, .string body] 31)
    have hpl := h.lt
    refine ⟨by rw [hb.cell (p := ⟨p, 0, none⟩) (by simp; omega)]; exact hc, ?_, ?_, ?_⟩ <;> (rw [hb.cell (by simp), cell_of_row _ _ _ _ _ _ hn]; rfl)
  have HH := Lib.hid h
  have HB1 := Lib.hid hb1
  have HX := Lib.hid hx
  have hI : decide ((300 : Int) ≤ (l.length : Int)) = false := by simp; omega
  simp only [ltV]
  clear h h1 h2 h3 h4 hx hb1 ho
  go_enter Try.func12, Try.ntmps12
  go_wp2
  have k0 := HK.out _ (Below.refl _ _)
  have k1 := HK.out _ ((Below.refl _ _).alloc (by simp) (.cells #[] 31))
  have k2 := HK.out _ ((Below.refl _ _).alloc (by simp) (.cells #[.int .i64 fr, .int .i64 to, .string body] 31))
  have k3 := HK.out _ (((Below.refl _ _).alloc (by simp) (.cells #[] 31)).alloc (by simp; try omega) (.cells #[.int .i64 fr, .int .i64 to, .string body] 31))
  have k4 := HK.out _ (((Below.refl _ _).alloc (by simp) (.cells #[.int .i64 fr, .int .i64 to, .string body] 31)).alloc (by simp; try omega) (.cells #[] 31))
  obtain ⟨k0a, k0b, k0c, k0d⟩ := k0
  obtain ⟨k1a, k1b, k1c, k1d⟩ := k1
  obtain ⟨k2a, k2b, k2c, k2d⟩ := k2
  obtain ⟨k3a, k3b, k3c, k3d⟩ := k3
  obtain ⟨k4a, k4b, k4c, k4d⟩ := k4
  go_region_law
    (first
      | (refine step_append_L _ (by rfl) (.tmp 41) (.tmp 45) (by rfl) _ 0 0 [] (by rfl) rfl (own_at (by first | exact (drew_at _ _).trans (top_at (by simp; done)) | exact (drew_at _ _).trans ((deep_at (by simp)).trans (top_at (by simp; done))))) a l.length cap l (by rfl) (HRd.out _ (by repeat (first | with_reducible exact HB1.out | refine Below.drew ?_ | refine Below.alloc ?_ (by simp; try omega) _))) (by have := HX.out; omega) ?_
         intro a4 cap4 w4 o4 gr4 n4
         have HB4 : Hid (Below (w.heap.size + 1) (w.alloc (.cells #[.int .i64 fr, .int .i64 to, .string body] 31)) w4) := Lib.hid (by
           refine Below.grown ?_ gr4 (by simp; try omega) (by intro k hk; simp [Value.ownBlock] at hk; omega)
           repeat (first | with_reducible exact Below.refl _ _ | refine Below.drew ?_ | refine Below.alloc ?_ (by simp; try omega) _))
         have O4 : Hid (OwnL w4 a4 cap4 l) := Lib.hid (by simpa using o4)
         have F4 : Hid (Fresh (w.heap.size + 1) a4) := Lib.hid (Fresh.anew (a := some ⟨_, 0, none⟩) (fun x hx => by injection hx with hx; subst hx; simp; try omega) n4 (by simp; try omega))
         have k9 := HK.out _ HB4.out
         obtain ⟨k9a, k9b, k9c, k9d⟩ := k9
         clear o4 n4)
      | (refine step_append_L _ (by rfl) (.tmp 46) (.tmp 48) (by rfl) a4 l.length cap4 l (by rfl) rfl (by first | exact O4.out | exact O4.out.below ((Below.refl _ _).alloc (Nat.le_refl _) _) (Nat.le_refl _)) _ 1 1 [⟨fr, to, body⟩] (by rfl) (rd_one (by first | exact heap_alloc_new _ _ | (refine (gr4.block _ (by simp) (by simp [Value.ownBlock])).trans ?_; first | exact (drew_at _ _).trans (top_at (by simp; done)) | exact (drew_at _ _).trans ((deep_at (by simp)).trans (top_at (by simp; done)))))) (by have := HX.out; omega) ?_
         intro a5 cap5 w5 o5 gr5 n5
         have HB5 : Hid (Below (w.heap.size + 1) (w.alloc (.cells #[.int .i64 fr, .int .i64 to, .string body] 31)) w5) := Lib.hid (by
           refine Below.grown ?_ gr5 (by have := HB4.out.size; simp at this ⊢; omega) (fun k hk => F4.out.rb k (own_rb hk))
           first | exact HB4.out | exact HB4.out.alloc (by have := HB4.out.size; simp at this ⊢; omega) _)
         have hb5 : Below w.heap.size w w5 := HB1.out.trans (HB5.out.mono (by omega))
         have F5 : Hid (Fresh w.heap.size a5) := Lib.hid ((F4.out.anew n5 (by have := HB4.out.size; simp at this ⊢; omega)).mono (by omega))
         have HA := Lib.hid (after_store (by decide) HH.out hb5 o5 F5.out (by rintro rfl; rcases o5 with ⟨_, _, h⟩ | ⟨_, _, h, _⟩; (simp at h); (cases h)) (by have := HX.out; simp; omega))
         have p5 := (HCell.out w5 hb5).1
         have f5 := (HCell.out w5 hb5).2
         clear o5 gr5 n5 hb5))
  all_goals
    go_wp2
    go_ret
    have e : (l ++ [(⟨fr, to, body⟩ : Lt)]).length = l.length + 1 := by simp
    have := HA.out.2.2
    rw [e] at this
    exact ⟨rfl, a5, this.1, this.2.1, this.2.2⟩
end
end Go.Proofs.Ythbgabmmfokioaa.Nt
