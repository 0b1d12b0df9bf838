/-
  A net: Send.
-/
import Derived.Test.YthbgabmmfokioaaNtAll
namespace Go.Proofs.Ythbgabmmfokioaa.Nt
open Go.RowKit
set_option linter.unusedVariables false
set_option linter.unusedSimpArgs false
set_option maxRecDepth 20000

/-- a letter in a block of its own -/
theorem rd_one {w : World} {b : Nat} {x : Lt} {t : TypeId} {fr : Nat × Nat} (h : w.heap[b]? = some (.cells #[.int .i64 x.fr, .int .i64 x.to, .string x.body] t fr)) : Rd w (some ⟨b, 0, none⟩) 1 [x] := by
  refine ⟨rfl, .inr ⟨b, 0, rfl, lt_of_heap h, fun j u hu => ?_⟩⟩
  simp only [World.cell?, h, Nat.zero_add]
  match j, hu with
  | 0, hu => simpa [ltrs] using hu
  | 1, hu => simpa [ltrs] using hu
  | 2, hu => simpa [ltrs] using hu

section
variable {w : World} {p : Nat} {a : Option Addr} {l : List Lt}

theorem send_fr (h : NAt tN w p a l) (x : Lt) (hx : place x.fr = false) : Calls Try.prog 11 #[.pointer (some ⟨p, 0, none⟩), ltV x] w fun e w' => e = .returned (.int .i64 1) ∧ Below w.heap.size w w' := by
  obtain ⟨fr, to, body⟩ := x
  simp only at hx
  simp only [ltV]
  clear h
  go_enter Try.func11, Try.ntmps11
  go_wp2_with (go_at_call 23; with_reducible refine (place_any _ _).mono ?_; rintro e w' ⟨rfl, rfl⟩)
  go_ret
  exact ⟨rfl, (Below.refl _ _).alloc (Nat.le_refl _) _⟩
theorem send_to (h : NAt tN w p a l) (x : Lt) (h1 : place x.fr = true) (hx : place x.to = false) : Calls Try.prog 11 #[.pointer (some ⟨p, 0, none⟩), ltV x] w fun e w' => e = .returned (.int .i64 1) ∧ Below w.heap.size w w' := by
  obtain ⟨fr, to, body⟩ := x
  simp only at hx h1
  simp only [ltV]
  clear h
  go_enter Try.func11, Try.ntmps11
  go_wp2_with (go_at_call 23; with_reducible refine (place_any _ _).mono ?_; rintro e w' ⟨rfl, rfl⟩)
  go_ret
  exact ⟨rfl, (Below.refl _ _).alloc (Nat.le_refl _) _⟩
theorem send_same (h : NAt tN w p a l) (x : Lt) (h1 : place x.fr = true) (h2 : place x.to = true) (hx : x.fr = x.to) : Calls Try.prog 11 #[.pointer (some ⟨p, 0, none⟩), ltV x] w fun e w' => e = .returned (.int .i64 1) ∧ Below w.heap.size w w' := by
  obtain ⟨fr, to, body⟩ := x
  simp only at hx h1 h2
  subst hx
  simp only [ltV]
  clear h
  go_enter Try.func11, Try.ntmps11
  go_wp2_with (go_at_call 23; with_reducible refine (place_any _ _).mono ?_; rintro e w' ⟨rfl, rfl⟩)
  go_ret
  exact ⟨rfl, (Below.refl _ _).alloc (Nat.le_refl _) _⟩
theorem send_size (h : NAt tN w p a l) (x : Lt) (h1 : place x.fr = true) (h2 : place x.to = true) (h3 : x.fr ≠ x.to) (hx : 200 < x.body.size) : Calls Try.prog 11 #[.pointer (some ⟨p, 0, none⟩), ltV x] w fun e w' => e = .returned (.int .i64 3) ∧ Below w.heap.size w w' := by
  obtain ⟨fr, to, body⟩ := x
  simp only at hx h1 h2 h3
  have h3' : (fr == to) = false := by simpa using h3
  have hx' : (200 : Int) < (body.size : Int) := by omega
  simp only [ltV]
  clear h h3 hx
  go_enter Try.func11, Try.ntmps11
  go_wp2_with (go_at_call 23; with_reducible refine (place_any _ _).mono ?_; rintro e w' ⟨rfl, rfl⟩)
  go_ret
  exact ⟨rfl, (Below.refl _ _).alloc (Nat.le_refl _) _⟩
theorem send_many (h : NAt tN w p a l) (x : Lt) (h1 : place x.fr = true) (h2 : place x.to = true) (h3 : x.fr ≠ x.to) (h4 : x.body.size ≤ 200) (hx : 300 ≤ l.length) : Calls Try.prog 11 #[.pointer (some ⟨p, 0, none⟩), ltV x] w fun e w' => e = .returned (.int .i64 5) ∧ Below w.heap.size w w' := by
  obtain ⟨fr, to, body⟩ := x
  simp only at h1 h2 h3 h4
  have h3' : (fr == to) = false := by simpa using h3
  have hx' : decide ((200 : Int) < (body.size : Int)) = false := by simp; omega
  have HF := Lib.hid (full_yes (h.below ((Below.refl _ _).alloc (Nat.le_refl _) (.cells #[.int .i64 fr, .int .i64 to, .string body] 31)) (Nat.le_refl _)) hx)
  simp only [ltV]
  clear h h3 h4 hx
  go_enter Try.func11, Try.ntmps11
  go_wp2_with (first
    | (go_at_call 23; with_reducible refine (place_any _ _).mono ?_; rintro e w' ⟨rfl, rfl⟩)
    | (go_at_call 24; with_reducible refine HF.out.mono ?_; rintro e w' ⟨rfl, rfl⟩))
  go_ret
  exact ⟨rfl, (Below.refl _ _).alloc (Nat.le_refl _) _⟩

/-- behind an append to the net's row: the net's own block is as it was, and a store of the row makes the net -/
theorem after_append {t : TypeId} (ht : t ≠ 31) {w W w4 : World} {p : Nat} {a a4 : Option Addr} {n cap cap4 : Nat} {l m : List Lt} (h : NAt t w p a l) (hb : Below w.heap.size w W) (o4 : OwnL w4 a4 cap4 m) (g : W.grownBy w4 (Value.slice a n cap).ownBlock) (an : Anew W a a4) (hm : m.length ≤ 300) :
    w4.cell? ⟨p, 0, none⟩ = w.cell? ⟨p, 0, none⟩ ∧ w4.frozen? ⟨p, 0, none⟩ = false ∧ NAt t (w4.setCell ⟨p, 0, none⟩ (.slice a4 m.length cap4)) p a4 m ∧ Anew w a a4 ∧ But [p, blk p a] w (w4.setCell ⟨p, 0, none⟩ (.slice a4 m.length cap4)) := by
  obtain ⟨cap0, hp, o, hl⟩ := h
  have hp1 := lt_of_heap hp
  have hne : a = none ∨ blk p a ≠ p := NAt.row_ne o hp ht
  have hsz := hb.size
  have hrow : some p ≠ (Value.slice a n cap).ownBlock := by
    intro e
    cases a with
    | none => simp [Value.ownBlock] at e
    | some q => simp [Value.ownBlock] at e; simp [blk] at hne; exact hne e.symm
  have hp4 : w4.heap[p]? = some (.cells #[.slice a l.length cap0] t (0, 0)) := by rw [g.block p (by omega) hrow, hb.block p hp1]; exact hp
  have hs : (w4.setCell ⟨p, 0, none⟩ (.slice a4 m.length cap4)).heap[p]? = some (.cells #[.slice a4 m.length cap4] t (0, 0)) := by
    simp [World.setCell, Array.getElem?_modify, hp4]
  have an' : Anew w a a4 := an.more hsz
  have hne4 : a4 = none ∨ blk p a4 ≠ p := NAt.row_ne o4 hp4 ht
  refine ⟨by simp [World.cell?, hp4, hp], by simp [World.frozen?, hp4], ⟨cap4, hs, ?_, hm⟩, an', ?_⟩
  · rcases hne4 with rfl | hne4
    · rcases o4 with ⟨_, h2, h3⟩ | ⟨_, _, h, _⟩
      · exact .inl ⟨rfl, h2, h3⟩
      · cases h
    · exact o4.of_block (p := p) (Below.heap_setCell _ _ _ _ hne4)
  · refine ((((But.refl [p, blk p a] w).below hb (Nat.le_refl _)).grown g fun k hk => ?_)).set _ (.inl (by simp))
    exact .inl (by rw [own_row (p := p) hk]; simp)

set_option maxHeartbeats 1000000 in
theorem send_ok (h : NAt tN w p a l) (x : Lt) (h1 : place x.fr = true) (h2 : place x.to = true) (h3 : x.fr ≠ x.to) (h4 : x.body.size ≤ 200) (hx : l.length < 300) : Calls Try.prog 11 #[.pointer (some ⟨p, 0, none⟩), ltV x] w fun e w' => e = .returned (.int .i64 0) ∧
    ∃ a', NAt tN w' p a' (l ++ [x]) ∧ Anew w a a' ∧ But [p, blk p a] w w' := by
  obtain ⟨fr, to, body⟩ := x
  simp only at h1 h2 h3 h4
  have h3' : (fr == to) = false := by simpa using h3
  have hx' : decide ((200 : Int) < (body.size : Int)) = false := by simp; omega
  have hb1 := (Below.refl w.heap.size w).alloc (Nat.le_refl _) (.cells #[.int .i64 fr, .int .i64 to, .string body] 31)
  have hb2 := hb1.alloc hb1.size (.cells #[.int .i64 fr, .int .i64 to, .string body] 31)
  have HF := Lib.hid (full_no (h.below hb1 (Nat.le_refl _)) hx)
  obtain ⟨cap, hc, hf, ho, hk1, hk2⟩ := (h.below hb1 (Nat.le_refl _)).cell
  have HH := Lib.hid h
  have HB := Lib.hid hb2
  have HO : Hid (OwnL ((w.alloc (.cells #[.int .i64 fr, .int .i64 to, .string body] 31)).alloc (.cells #[.int .i64 fr, .int .i64 to, .string body] 31)).drew a cap l) := Lib.hid ((ho.below ((Below.refl _ _).alloc (Nat.le_refl _) (.cells #[.int .i64 fr, .int .i64 to, .string body] 31)) (Nat.le_refl _)).drew 1)
  have HR : Hid (Rd ((w.alloc (.cells #[.int .i64 fr, .int .i64 to, .string body] 31)).alloc (.cells #[.int .i64 fr, .int .i64 to, .string body] 31)).drew (some ⟨w.heap.size + 1, 0, none⟩) 1 [⟨fr, to, body⟩]) := Lib.hid (by
    have e := heap_alloc_new (w.alloc (.cells #[.int .i64 fr, .int .i64 to, .string body] 31)) (.cells #[.int .i64 fr, .int .i64 to, .string body] 31)
    rw [show (w.alloc (.cells #[.int .i64 fr, .int .i64 to, .string body] 31)).heap.size = w.heap.size + 1 by simp] at e
    exact rd_one (w := ((w.alloc _).alloc _).drew) (x := ⟨fr, to, body⟩) e)
  have HX : Hid (l.length < 300) := Lib.hid hx
  have hc2 : ((w.alloc (.cells #[.int .i64 fr, .int .i64 to, .string body] 31)).alloc (.cells #[.int .i64 fr, .int .i64 to, .string body] 31)).cell? ⟨p, 0, none⟩ = some (.slice a l.length cap) := by
    rw [hb2.cell (p := ⟨p, 0, none⟩) h.lt, ← hb1.cell (p := ⟨p, 0, none⟩) h.lt]; exact hc
  have HC : Hid (w.cell? ⟨p, 0, none⟩ = some (.slice a l.length cap)) := Lib.hid (by rw [← hc]; exact (hb1.cell (p := ⟨p, 0, none⟩) h.lt).symm)
  simp only [ltV]
  clear h h3 h4 hx ho hb1 hb2
  go_enter Try.func11, Try.ntmps11
  go_wp2_with (first
    | (go_at_call 23; with_reducible refine (place_any _ _).mono ?_; rintro e w' ⟨rfl, rfl⟩)
    | (go_at_call 24; with_reducible refine HF.out.mono ?_; rintro e w' ⟨rfl, rfl⟩))
  go_region_law (refine step_append_L _ rfl (.tmp 31) (.tmp 33) rfl a l.length cap l rfl rfl HO.out _ 1 1 [⟨fr, to, body⟩] rfl HR.out (by have := HX.out; omega) ?_
                 intro a4 cap4 w4 o4 g4 n4
                 have HA := Lib.hid (after_append (by decide) HH.out (HB.out.drew) o4 g4 n4 (by have := HX.out; simp; omega))
                 have p4 := HA.out.1.trans HC.out
                 have f4 := HA.out.2.1
                 clear o4 g4 n4)
  all_goals
    go_wp2
    go_ret
    have e : (l ++ [(⟨fr, to, body⟩ : Lt)]).length = l.length + 1 := by simp
    have := HA.out.2.2
    rw [e] at this
    exact ⟨rfl, a4, this.1, this.2.1, this.2.2⟩

/-- Send, whatever comes -/
theorem send_any (h : NAt tN w p a l) (x : Lt) : Calls Try.prog 11 #[.pointer (some ⟨p, 0, none⟩), ltV x] w fun e w' => e = .returned (.int .i64 (sendE l x)) ∧
    ∃ a', NAt tN w' p a' (sendL l x) ∧ Anew w a a' ∧ But [p, blk p a] w w' := by
  have no : ∀ k : Int, k ≠ 0 → sendE l x = k → (Calls Try.prog 11 #[.pointer (some ⟨p, 0, none⟩), ltV x] w fun e w' => e = .returned (.int .i64 k) ∧ Below w.heap.size w w') →
      Calls Try.prog 11 #[.pointer (some ⟨p, 0, none⟩), ltV x] w fun e w' => e = .returned (.int .i64 (sendE l x)) ∧ ∃ a', NAt tN w' p a' (sendL l x) ∧ Anew w a a' ∧ But [p, blk p a] w w' := fun k hk he hc => by
    refine hc.mono ?_
    rintro e w' ⟨rfl, hb⟩
    rw [sendL_no (by rw [he]; exact hk), he]
    exact ⟨rfl, a, h.below hb (Nat.le_refl _), Anew.refl _ _, (But.of_below hb).mono (by simp)⟩
  by_cases h1 : place x.fr = true
  · by_cases h2 : place x.to = true
    · by_cases h3 : x.fr = x.to
      · exact no 1 (by decide) (by unfold sendE; simp [h1, h2, h3]) (send_same h x h1 h2 h3)
      · by_cases h4 : x.body.size ≤ 200
        · by_cases h5 : l.length < 300
          · have e := sendE_of h1 h2 h3 h4 h5
            rw [e, sendL_ok e]
            exact send_ok h x h1 h2 h3 h4 h5
          · refine no 5 (by decide) ?_ (send_many h x h1 h2 h3 h4 (by omega))
            unfold sendE
            rw [if_neg (by simp [h1]), if_neg (by simp [h2]), if_neg h3, if_neg (by omega), if_pos (by omega)]
        · refine no 3 (by decide) ?_ (send_size h x h1 h2 h3 (by omega))
          unfold sendE
          rw [if_neg (by simp [h1]), if_neg (by simp [h2]), if_neg h3, if_pos (by omega)]
    · have h2' : place x.to = false := by simpa using h2
      exact no 1 (by decide) (by unfold sendE; simp [h1, h2']) (send_to h x h1 h2')
  · have h1' : place x.fr = false := by simpa using h1
    exact no 1 (by decide) (by unfold sendE; simp [h1']) (send_fr h x h1')
end
end Go.Proofs.Ythbgabmmfokioaa.Nt
