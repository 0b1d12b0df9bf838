/-
  The document's own net: At, To, Send.
-/
import Derived.Test.YthbgabmmfokioaaNtTwo
namespace Go.Proofs.Ythbgabmmfokioaa.Nt
open Go.RowKit
set_option linter.unusedVariables false
set_option linter.unusedSimpArgs false
set_option maxRecDepth 20000
abbrev tR : TypeId := 29
section
variable {w : World} {p : Nat} {a : Option Addr} {l : List Lt}

theorem rat_none (h : NAt tR w p a []) (i : Int) :
    Calls Try.prog 26 #[.pointer (some ⟨p, 0, none⟩), .int .i64 i] w fun e w' => e = .returned (.int .i64 (-1)) ∧ w = w' := by
  obtain ⟨cap, hc, hf, ho, _⟩ := h.cell
  simp only [List.length_nil] at hc
  clear h ho
  go_enter Try.func26, Try.ntmps26
  go_wp2
  go_ret
  exact ⟨rfl, rfl⟩
theorem rat_some (h : NAt tR w p a l) (hl : l ≠ []) (i : Int) :
    Calls Try.prog 26 #[.pointer (some ⟨p, 0, none⟩), .int .i64 i] w fun e w' => e = .returned (.int .i64 ((ix i l.length : Nat) : Int)) ∧ w = w' := by
  obtain ⟨cap, hc, hf, ho, _⟩ := h.cell
  have h0 : 0 < l.length := by cases l; contradiction; simp
  have h3 := h.len
  have h1 := (tmod_in i h0 h3).1
  have h2 := (tmod_in i h0 h3).2
  have HG := Lib.hid (ix_ref i h0)
  have hI0 : (0 : Int) < (l.length : Int) := by omega
  have hI3 : (l.length : Int) ≤ 300 := by omega
  have hne : ((l.length : Int) == 0) = false := by rw [beq_eq_false_iff_ne]; omega
  clear h ho hl
  generalize l.length = n at *
  by_cases hs : i.tmod (n : Int) < 0
  · have HG' := HG.out
    rw [if_pos hs] at HG'
    have HE := Lib.hid HG'
    clear HG HG'
    go_enter Try.func26, Try.ntmps26
    go_wp2
    go_ret
    rw [← HE.out]
    exact ⟨rfl, rfl⟩
  · have HG' := HG.out
    rw [if_neg hs] at HG'
    have HE := Lib.hid HG'
    have hs' : decide (i.tmod (n : Int) < 0) = false := by simpa using hs
    clear HG HG'
    go_enter Try.func26, Try.ntmps26
    go_wp2
    go_ret
    rw [← HE.out]
    exact ⟨rfl, rfl⟩

set_option maxHeartbeats 1000000 in
theorem rto_any (h : NAt tR w p a l) (q : Int) :
    Calls Try.prog 22 #[.pointer (some ⟨p, 0, none⟩), .int .i64 q] w fun e w' => e = .returned (toV l q) ∧ w = w' := by
  obtain ⟨cap, hc, hf, ho, _⟩ := h.cell
  have hl3 : l.length ≤ 300 := h.len
  have HR := Lib.hid ho.rd
  have HL := Lib.hid hl3
  clear h ho hl3
  go_enter Try.func22, Try.ntmps22
  go_wp2
  go_loop [6] (fun i => ∃ k : Nat, k ≤ l.length ∧ i = .int .i64 (k : Int) ∧ (∀ j y, j < k → l[j]? = some y → y.to ≠ q)) (fun i => l.length - (intOf i).toNat)
  case atStart => exact ⟨0, Nat.zero_le _, rfl, fun j y hj => by omega⟩
  case round =>
    obtain ⟨k, hk, rfl, hno⟩ := hrel
    have HN := Lib.hid hno
    have hl3 : (l.length : Int) ≤ 300 := by have := HL.out; omega
    clear hno
    by_cases hlt : k < l.length
    · have hltI : (k : Int) < (l.length : Int) := by omega
      obtain ⟨x, hx⟩ : ∃ x, l[k]? = some x := ⟨_, List.getElem?_eq_getElem hlt⟩
      obtain ⟨b, off, rfl, hb, c1, c2, c3⟩ := HR.out.at hx
      have HX := Lib.hid hx
      clear hx
      by_cases he : x.to = q
      · have HK := Lib.hid (to_step HX.out HN.out he)
        have ht : (x.to == q) = true := by simpa using he
        clear he
        go_wp2
        go_ret2
        refine ⟨by unfold toV; rw [HK.out]; rfl, rfl⟩
      · have ht : (x.to == q) = false := by simpa using he
        have HE := Lib.hid he
        clear he
        go_wp2
        go_round
        case rel =>
          refine ⟨k + 1, by omega, by go_num, fun j y hj hy => ?_⟩
          by_cases hjk : j = k
          · subst hjk
            have : y = x := by have := HX.out; rw [this] at hy; injection hy with hy; exact hy.symm
            rw [this]; exact HE.out
          · exact HN.out j y (by omega) hy
        case measure => simp [intOf]; omega
    · have hkl : k = l.length := by omega
      subst hkl
      have HK := Lib.hid (to_end HN.out)
      clear hlt
      go_wp2
      go_ret2
      refine ⟨by unfold toV; rw [HK.out]; rfl, rfl⟩

/-- a store of a row of its own makes the net -/
theorem after_store {t : TypeId} (ht : t ≠ 31) {w w4 : World} {p : Nat} {a a4 : Option Addr} {cap4 : Nat} {l m : List Lt} (h : NAt t w p a l) (hb : Below w.heap.size w w4) (o4 : OwnL w4 a4 cap4 m) (f4 : Fresh w.heap.size a4) (hs : a4 ≠ none) (hm : m.length ≤ 300) :
    w4.cell? ⟨p, 0, none⟩ = w.cell? ⟨p, 0, none⟩ ∧ w4.frozen? ⟨p, 0, none⟩ = false ∧ NAt t (w4.setCell ⟨p, 0, none⟩ (.slice a4 m.length cap4)) p a4 m ∧ Anew w a a4 ∧ But [p, blk p a] w (w4.setCell ⟨p, 0, none⟩ (.slice a4 m.length cap4)) := by
  obtain ⟨cap0, hp, o, hl⟩ := h
  have hp1 := lt_of_heap hp
  have hp4 : w4.heap[p]? = some (.cells #[.slice a l.length cap0] t (0, 0)) := by rw [hb.block p hp1]; exact hp
  have hse : (w4.setCell ⟨p, 0, none⟩ (.slice a4 m.length cap4)).heap[p]? = some (.cells #[.slice a4 m.length cap4] t (0, 0)) := by
    simp [World.setCell, Array.getElem?_modify, hp4]
  obtain ⟨g, cur, rfl, _⟩ : ∃ g cur, a4 = some ⟨g, 0, none⟩ ∧ w4.heap[g]? = some (.cells cur 31 (0, 0)) := by
    rcases o4 with ⟨h1, _⟩ | ⟨g, cur, h1, h2, _⟩
    · exact absurd h1 hs
    · exact ⟨g, cur, h1, h2⟩
  have hg : w.heap.size ≤ g := f4 _ rfl
  refine ⟨by simp [World.cell?, hp4, hp], by simp [World.frozen?, hp4], ⟨cap4, hse, ?_, hm⟩, .inr ⟨g, rfl, hg⟩, ?_⟩
  · exact o4.of_block (p := p) (Below.heap_setCell _ _ _ _ (by simp [blk]; omega))
  · exact ((But.refl [p, blk p a] w).below hb (Nat.le_refl _)).set _ (.inl (by simp))
theorem own_at {W : World} {g : Nat} (h : W.heap[g]? = some (.cells #[] 31 (0, 0))) : OwnL W (some ⟨g, 0, none⟩) 0 [] := .inr ⟨g, #[], rfl, h, Nat.le_refl _, Nat.zero_le _, Nat.le_refl _, rfl⟩

theorem rsend_arg (h : NAt tR w p a l) (x : Lt) (hx : place x.fr = false ∨ place x.to = false ∨ x.fr = x.to) : Calls Try.prog 12 #[.pointer (some ⟨p, 0, none⟩), ltV x] w fun e w' => e = .returned (.int .i64 1) ∧ Below w.heap.size w w' := by
  obtain ⟨fr, to, body⟩ := x
  simp only at hx
  simp only [ltV]
  clear h
  by_cases h1 : fr < 0
  · have g1 : decide (fr < 0) = true := by simpa using h1
    clear hx
    go_enter Try.func12, Try.ntmps12
    go_wp2
    go_ret
    exact ⟨rfl, (Below.refl _ _).alloc (Nat.le_refl _) _⟩
  · have g1 : decide (fr < 0) = false := by simpa using h1
    by_cases h2 : 7 < fr
    · clear hx h1
      go_enter Try.func12, Try.ntmps12
      go_wp2
      go_ret
      exact ⟨rfl, (Below.refl _ _).alloc (Nat.le_refl _) _⟩
    · have g2 : decide (7 < fr) = false := by simpa using h2
      by_cases h3 : to < 0
      · clear hx h1 h2
        go_enter Try.func12, Try.ntmps12
        go_wp2
        go_ret
        exact ⟨rfl, (Below.refl _ _).alloc (Nat.le_refl _) _⟩
      · have g3 : decide (to < 0) = false := by simpa using h3
        by_cases h4 : 7 < to
        · clear hx h1 h2 h3
          go_enter Try.func12, Try.ntmps12
          go_wp2
          go_ret
          exact ⟨rfl, (Below.refl _ _).alloc (Nat.le_refl _) _⟩
        · have g4 : decide (7 < to) = false := by simpa using h4
          have h5 : fr = to := by
            rcases hx with hx | hx | hx
            · have := place_no hx; omega
            · have := place_no hx; omega
            · exact hx
          subst h5
          clear hx h1 h2 h3 h4
          go_enter Try.func12, Try.ntmps12
          go_wp2
          go_ret
          exact ⟨rfl, (Below.refl _ _).alloc (Nat.le_refl _) _⟩
end
end Go.Proofs.Ythbgabmmfokioaa.Nt
