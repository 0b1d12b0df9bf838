/-
  PROVED: Numbers count round: what is at a number is at it and how many there are, too. CONDITIONS: none (any letters, of which up to 400 are sent; any number: near the ends the law itself says nothing).
-/
import Derived.Test.YthbgabmmfokioaaNtTwo
namespace Go.Proofs.Ythbgabmmfokioaa.netRound
open Go.ChangeShapes Go.WideShapes Go.ChangeAt Go.RowKit Go.Joins
set_option linter.unusedVariables false
set_option linter.unusedSimpArgs false
set_option maxRecDepth 20000

open Nt
theorem takeV_round (l : List Lt) (i k : Int) : takeV l (i + k * l.length) = takeV l i := by unfold takeV; rw [ix_add]
theorem takeL_round (l : List Lt) (i k : Int) : takeL l (i + k * l.length) = takeL l i := by unfold takeL; rw [ix_add]
theorem copyL_round (l : List Lt) (i k : Int) : copyL l (i + k * l.length) = copyL l i := by unfold copyL; rw [takeV_round]
/-- two nets of the call's own -/
def NN (w0 w : World) (p : Nat) (l : List Lt) (q : Nat) (m : List Lt) : Prop := ∃ a b, Rn w0 w p a l ∧ Rn w0 w q b m ∧ Dis [p, blk p a] [q, blk q b]
section
variable {w0 w w' : World} {p q : Nat} {l m l' m' : List Lt}
theorem Rn.keep {a : Option Addr} (h : Rn w0 w p a l) {M : List Nat} (hb : But M w w') (hd : Dis M [p, blk p a]) (hM : ∀ x ∈ M, w0.heap.size ≤ x) : Rn w0 w' p a l :=
  ⟨h.at_.keep hb hd, h.op, h.oa, h.be.trans (hb.to_below hM h.be.size)⟩
theorem Rn.from {a : Option Addr} (h : Rn w0 w p a l) : ∀ x ∈ [p, blk p a], w0.heap.size ≤ x := by
  intro x hx
  simp at hx
  rcases hx with rfl | rfl
  · exact h.op
  · exact h.oa.blk h.op
theorem NN.one (h : NN w0 w p l q m) {Q : Ending → World → Prop} {f : FuncId} {args : Array Value}
    (k : ∀ a, Rn w0 w p a l → Calls Try.prog f args w fun e w' => Q e w' ∧ Aft w0 w p a l' w') : Calls Try.prog f args w fun e w' => Q e w' ∧ NN w0 w' p l' q m := by
  obtain ⟨a, b, h1, h2, hd⟩ := h
  refine (k a h1).mono ?_
  rintro e w' ⟨hq, a', g1, g2, g3⟩
  exact ⟨hq, a', b, g1, Rn.keep h2 g3 hd (Rn.from h1), hd.left g2.net h2.at_.lts⟩
theorem NN.two (h : NN w0 w p l q m) {Q : Ending → World → Prop} {f : FuncId} {args : Array Value}
    (k : ∀ b, Rn w0 w q b m → Calls Try.prog f args w fun e w' => Q e w' ∧ Aft w0 w q b m' w') : Calls Try.prog f args w fun e w' => Q e w' ∧ NN w0 w' p l q m' := by
  obtain ⟨a, b, h1, h2, hd⟩ := h
  refine (k b h2).mono ?_
  rintro e w' ⟨hq, b', g1, g2, g3⟩
  exact ⟨hq, a, b', Rn.keep h1 g3 hd.symm (Rn.from h2), g1, hd.right g2.net h1.at_.lts⟩
/-- .. a block that was made just before stays -/
theorem NN.two_keep (h : NN w0 w p l q m) (o : Obj) {Q : Ending → World → Prop} {f : FuncId} {args : Array Value}
    (k : ∀ b, Rn w0 (w.alloc o) q b m → Calls Try.prog f args (w.alloc o) fun e w' => Q e w' ∧ Aft w0 (w.alloc o) q b m' w') : Calls Try.prog f args (w.alloc o) fun e w' => Q e w' ∧ NN w0 w' p l q m' ∧ w'.heap[w.heap.size]? = some o ∧ w.heap.size < w'.heap.size := by
  obtain ⟨a, b, h1, h2, hd⟩ := h
  have hb := (Below.refl w.heap.size w).alloc (Nat.le_refl _) o
  have h1' := h1.below hb
  have h2' := h2.below hb
  refine (k b h2').mono ?_
  rintro e w' ⟨hq, b', g1, g2, g3⟩
  have e1 := g3.size
  simp at e1
  refine ⟨hq, ⟨a, b', Rn.keep h1' g3 hd.symm (Rn.from h2'), g1, hd.right g2.net h1'.at_.lts⟩, ?_, by omega⟩
  refine (g3.block _ (by simp) ?_).trans (heap_alloc_new w o)
  intro hm
  have := h2.at_.lts _ hm
  omega
theorem NN.below (h : NN w0 w p l q m) (hb : Below w.heap.size w w') : NN w0 w' p l q m := by
  obtain ⟨a, b, h1, h2, hd⟩ := h
  exact ⟨a, b, h1.below hb, h2.below hb, hd⟩
theorem NN.be (h : NN w0 w p l q m) : Below w0.heap.size w0 w := by obtain ⟨a, b, h1, _⟩ := h; exact h1.be
theorem NN.len3 (h : NN w0 w p l q m) : l.length ≤ 300 ∧ m.length ≤ 300 := by obtain ⟨a, b, h1, h2, _⟩ := h; exact ⟨h1.at_.len, h2.at_.len⟩
theorem NN.sendA (h : NN w0 w p l q m) (x : Lt) : Calls Try.prog 11 #[.pointer (some ⟨p, 0, none⟩), ltV x] w fun e w' => e = .returned (.int .i64 (sendE l x)) ∧ NN w0 w' p (sendL l x) q m := h.one fun a k => k.send x
theorem NN.sendB (h : NN w0 w p l q m) (x : Lt) : Calls Try.prog 11 #[.pointer (some ⟨q, 0, none⟩), ltV x] w fun e w' => e = .returned (.int .i64 (sendE m x)) ∧ NN w0 w' p l q (sendL m x) := h.two fun a k => k.send x
theorem NN.takeA (h : NN w0 w p l q m) (i : Int) : Calls Try.prog 13 #[.pointer (some ⟨p, 0, none⟩), .int .i64 i] w fun e w' => e = .returned (.tuple #[ltV (takeV l i), .bool (takeB l)]) ∧ NN w0 w' p (takeL l i) q m := h.one fun a k => k.take i
theorem NN.takeB (h : NN w0 w p l q m) (i : Int) : Calls Try.prog 13 #[.pointer (some ⟨q, 0, none⟩), .int .i64 i] w fun e w' => e = .returned (.tuple #[ltV (takeV m i), .bool (takeB m)]) ∧ NN w0 w' p l q (takeL m i) := h.two fun a k => k.take i
theorem NN.copyA (h : NN w0 w p l q m) (i : Int) : Calls Try.prog 15 #[.pointer (some ⟨p, 0, none⟩), .int .i64 i] w fun e w' => e = .returned (.bool (copyB l)) ∧ NN w0 w' p (copyL l i) q m := h.one fun a k => k.copy i
theorem NN.copyB (h : NN w0 w p l q m) (i : Int) : Calls Try.prog 15 #[.pointer (some ⟨q, 0, none⟩), .int .i64 i] w fun e w' => e = .returned (.bool (copyB m)) ∧ NN w0 w' p l q (copyL m i) := h.two fun a k => k.copy i
theorem NN.lenB (h : NN w0 w p l q m) : Calls Try.prog 20 #[.pointer (some ⟨q, 0, none⟩)] w fun e w' => e = .returned (.int .i64 (m.length : Int)) ∧ w = w' := by
  obtain ⟨a, b, h1, h2, hd⟩ := h
  exact h2.len
theorem NN.allA (h : NN w0 w p l q m) : Calls Try.prog 18 #[.pointer (some ⟨p, 0, none⟩)] w fun e w' => ∃ a' cap', e = .returned (.slice a' l.length cap') ∧ NN w0 w' p l q m ∧ OwnL w' a' cap' l := by
  have hh := h
  obtain ⟨a, b, h1, h2, hd⟩ := h
  refine h1.all.mono ?_
  rintro e w' ⟨a', cap', rfl, k1, _, hb⟩
  exact ⟨a', cap', rfl, hh.below hb, k1⟩
theorem NN.allB (h : NN w0 w p l q m) {aA : Option Addr} {cA : Nat} {lA : List Lt} (o : OwnL w aA cA lA) : Calls Try.prog 18 #[.pointer (some ⟨q, 0, none⟩)] w fun e w' => ∃ a' cap', e = .returned (.slice a' m.length cap') ∧ NN w0 w' p l q m ∧ OwnL w' a' cap' m ∧ OwnL w' aA cA lA := by
  have hh := h
  obtain ⟨a, b, h1, h2, hd⟩ := h
  refine h2.all.mono ?_
  rintro e w' ⟨a', cap', rfl, k1, _, hb⟩
  exact ⟨a', cap', rfl, hh.below hb, k1, o.below hb (Nat.le_refl _)⟩
end
theorem new_two {w0 w : World} {p : Nat} (h : Rn w0 w p none []) : Calls Try.prog 10 #[] w fun e w' => ∃ q, e = .returned (.pointer (some ⟨q, 0, none⟩)) ∧ NN w0 w' p [] q [] := by
  refine (new_run w0 w h.be).mono ?_
  rintro e w' ⟨q, rfl, h1, h2, h3⟩
  refine ⟨q, rfl, none, none, h.below h3, h1, ?_⟩
  have := h.at_.lt
  intro x hx hm
  simp [blk] at hx hm
  omega

set_option maxHeartbeats 4000000 in
theorem walk (a0 : Option Addr) (n0 c0 : Nat) (l0 : List Nt.Lt) (x1 : Int) (w : World) (w0 : Nt.AL w a0 n0 c0 l0) (w1 : (Lit.int .i64 x1).wf = true) :
    Calls Try.prog 7 #[.slice a0 n0 c0, .int .i64 x1] w fun e w' => e = .returned (.bool true) ∧ Below w.heap.size w w' := by
  obtain ⟨hrd, hcap, hmax⟩ := w0
  have HA := Lib.hid hrd
  have HLen : Hid (l0.length = n0) := Lib.hid hrd.1
  have hm0 : n0 ≤ 9223372036854775807 := by have := hcap; simp only [maxLen] at hmax; omega
  have hg := lt_guard
  have hp := lt_held
  clear hrd hcap hmax w1
  go_enter Try.func7, Try.ntmps7
  go_wp2_with (first
    | (go_at_call 9; with_reducible refine (awake_any _).mono ?_; rintro e w1 ⟨rfl, hb1⟩
       have HB := Lib.hid hb1
       clear hb1)
    | (go_at_call 10; with_reducible refine (new_run _ _ HB.out).mono ?_; rintro e w2 ⟨p, rfl, h1, _, _⟩
       have H := Lib.hid h1
       clear h1 HB)
    | (go_at_call 10; with_reducible refine (new_two H.out).mono ?_; rintro e w3 ⟨q, rfl, h2⟩
       have H2 := Lib.hid h2
       clear h2))
  go_loopw [7] (fun i wr => ∃ (k : Nat) (ls : List Lt), k ≤ n0 ∧ k ≤ 400 ∧ i = .int .i64 (k : Int) ∧ NN w wr p ls q ls) (fun i _ => 400 - (intOf i).toNat)
  case atStart => exact ⟨0, [], by omega, by omega, rfl, H2.out⟩
  case round =>
    obtain ⟨k, ls, hk1, hk2, rfl, hr⟩ := hrel
    have HR := Lib.hid hr
    have hl3 : ls.length ≤ 300 := hr.len3.1
    clear hr
    by_cases hlt : k < n0 ∧ k < 400
    · have hltI : (k : Int) < (n0 : Int) := by omega
      have hltJ : (k : Int) < 400 := by omega
      obtain ⟨⟨fr, to, body⟩, hx⟩ : ∃ x, l0[k]? = some x := ⟨_, List.getElem?_eq_getElem (by have := HLen.out; omega)⟩
      obtain ⟨b, off, rfl, hb, c0, c1, c2⟩ := HA.out.at hx
      simp only at c0 c1 c2
      have d0 : wr.cell? ⟨b, off + k * 3, none⟩ = some (.int .i64 fr) := (HR.out.be.cell hb).trans c0
      have d1 : wr.cell? ⟨b, off + k * 3 + 1, none⟩ = some (.int .i64 to) := (HR.out.be.cell hb).trans c1
      have d2 : wr.cell? ⟨b, off + k * 3 + 2, none⟩ = some (.string body) := (HR.out.be.cell hb).trans c2
      have C0 := Lib.hid c0
      have C1 := Lib.hid c1
      have C2 := Lib.hid c2
      have HBb := Lib.hid hb
      have HS := Lib.hid (HR.out.sendA ⟨fr, to, body⟩)
      have HS2 : Hid (∀ w' l', NN w w' p l' q ls → Calls Try.prog 11 #[.pointer (some ⟨q, 0, none⟩), ltV ⟨fr, to, body⟩] w' fun e w'' => e = .returned (.int .i64 (sendE ls ⟨fr, to, body⟩)) ∧ NN w w'' p l' q (sendL ls ⟨fr, to, body⟩)) := Lib.hid fun w' l' h => h.sendB _
      simp only [ltV] at HS HS2
      obtain ⟨E, hEE⟩ : ∃ E, sendE ls ⟨fr, to, body⟩ = E := ⟨_, rfl⟩
      rw [hEE] at HS HS2
      clear c0 c1 c2 hx hb hEE
      go_wp2_with (first
        | (go_at_call 11; with_reducible refine HS.out.mono ?_; rintro e w4 ⟨rfl, h4⟩
           have e0 : w4.cell? ⟨b, off + k * 3, none⟩ = some (.int .i64 fr) := (h4.be.cell HBb.out).trans C0.out
           have e1 : w4.cell? ⟨b, off + k * 3 + 1, none⟩ = some (.int .i64 to) := (h4.be.cell HBb.out).trans C1.out
           have e2 : w4.cell? ⟨b, off + k * 3 + 2, none⟩ = some (.string body) := (h4.be.cell HBb.out).trans C2.out
           have H4 := Lib.hid h4
           clear h4)
        | (go_at_call 11; with_reducible refine (HS2.out _ _ H4.out).mono ?_; rintro e w5 ⟨rfl, h5⟩
           have H5 := Lib.hid h5
           clear h5))
      go_roundw
      case rel => exact ⟨k + 1, sendL ls ⟨fr, to, body⟩, by omega, by omega, by go_num, H5.out⟩
      case measure => simp [intOf]; omega
    · have hnot : (¬ k < n0) ∨ (k < n0 ∧ ¬ k < 400) := by omega
      rcases hnot with h9 | ⟨h8, h9⟩
      case' inr => have g1 : (k : Int) < (n0 : Int) := by omega
                   have g2 : decide ((k : Int) < 400) = false := by simp; omega
      all_goals
        clear hlt
        by_cases hlo : x1 < -1152921504606846976
        · go_wp2
          go_ret
          exact ⟨rfl, HR.out.be⟩
        · by_cases hhi : 1152921504606846976 < x1
          · go_wp2
            go_ret
            exact ⟨rfl, HR.out.be⟩
          · have hlo' : -1152921504606846976 ≤ x1 := by omega
            have hhi' : x1 ≤ 1152921504606846976 := by omega
            have hl3I : (ls.length : Int) ≤ 300 := by omega
            have hM := takeL_le ls x1
            obtain ⟨M, hMe⟩ : ∃ M, takeL ls x1 = M := ⟨_, rfl⟩
            rw [hMe] at hM
            have hM3 : (M.length : Int) ≤ 300 := by omega
            obtain ⟨⟨fr, to, body⟩, hV⟩ : ∃ x, takeV ls x1 = x := ⟨_, rfl⟩
            obtain ⟨u, hu⟩ : ∃ u, Nt.takeB ls = u := ⟨_, rfl⟩
            obtain ⟨c, hc⟩ : ∃ c, Nt.copyB M = c := ⟨_, rfl⟩
            obtain ⟨K, hK⟩ : ∃ K, copyL M x1 = K := ⟨_, rfl⟩
            have hK3 : K.length ≤ 300 := by rw [← hK]; exact copyL_le (by omega) x1
            have HT1 : Hid (∀ w', NN w w' p ls q ls → Calls Try.prog 13 #[.pointer (some ⟨p, 0, none⟩), .int .i64 x1] w' fun e w'' => e = .returned (.tuple #[.agg #[.int .i64 fr, .int .i64 to, .string body], .bool u]) ∧ NN w w'' p M q ls) := Lib.hid fun w' h => by
              have := h.takeA x1
              rw [hV, hu, hMe] at this
              exact this
            have HT2 : Hid (∀ w' o, NN w w' p M q ls → Calls Try.prog 13 #[.pointer (some ⟨q, 0, none⟩), .int .i64 (x1 - 3 * (ls.length : Int))] (w'.alloc o) fun e w'' => e = .returned (.tuple #[.agg #[.int .i64 fr, .int .i64 to, .string body], .bool u]) ∧ NN w w'' p M q M ∧ w''.heap[w'.heap.size]? = some o ∧ w'.heap.size < w''.heap.size) := Lib.hid fun w' o h => by
              have := h.two_keep o (f := 13) (args := #[.pointer (some ⟨q, 0, none⟩), .int .i64 (x1 + (-3) * (ls.length : Int))]) (Q := fun e _ => e = .returned (.tuple #[ltV (takeV ls (x1 + (-3) * (ls.length : Int))), .bool (Nt.takeB ls)])) (m' := takeL ls (x1 + (-3) * (ls.length : Int))) fun b k => k.take _
              rw [takeV_round, takeL_round, hV, hu, hMe, show x1 + (-3) * (ls.length : Int) = x1 - 3 * (ls.length : Int) by omega] at this
              exact this
            have HC1 : Hid (∀ w', NN w w' p M q M → Calls Try.prog 15 #[.pointer (some ⟨p, 0, none⟩), .int .i64 x1] w' fun e w'' => e = .returned (.bool c) ∧ NN w w'' p K q M) := Lib.hid fun w' h => by
              have := h.copyA x1
              rw [hc, hK] at this
              exact this
            have HC2 : Hid (∀ w', NN w w' p K q M → Calls Try.prog 15 #[.pointer (some ⟨q, 0, none⟩), .int .i64 (x1 + 2 * (M.length : Int))] w' fun e w'' => e = .returned (.bool c) ∧ NN w w'' p K q K) := Lib.hid fun w' h => by
              have := h.copyB (x1 + 2 * (M.length : Int))
              rw [copyL_round, hc, hK] at this
              exact this
            have HM : Hid (M.length ≤ 300) := Lib.hid (by omega)
            have HK := Lib.hid hK3
            have HLn := Lib.hid HR.out.lenB
            clear hMe hV hu hc hK hM hlo hhi
            go_wp2_with (first
              | (go_at_call 13; with_reducible refine (HT1.out _ HR.out).mono ?_; rintro e w4 ⟨rfl, h4⟩
                 have H4 := Lib.hid h4
                 have HLn4 := Lib.hid (h4.below ((Below.refl _ _).alloc (Nat.le_refl _) (.cells #[.int .i64 fr, .int .i64 to, .string body] 31))).lenB
                 clear h4 HT1)
              | (go_at_call 20; with_reducible refine HLn4.out.mono ?_; rintro e w5 ⟨rfl, rfl⟩)
              | (go_at_call 13; with_reducible refine (HT2.out _ _ H4.out).mono ?_; rintro e w6 ⟨rfl, h6, k6, z6⟩
                 have hb6 := (Below.refl w6.heap.size w6).alloc (Nat.le_refl _) (.cells #[.int .i64 fr, .int .i64 to, .string body] 31)
                 have H6 := Lib.hid (h6.below hb6)
                 have K6 := Lib.hid ((hb6.block _ z6).trans k6)
                 have v0 := cell_of_row _ _ 0 _ _ _ K6.out
                 have v1 := cell_of_row _ _ 1 _ _ _ K6.out
                 have v2 := cell_of_row _ _ 2 _ _ _ K6.out
                 clear h6 k6 z6 hb6)
              | (go_at_call 18; with_reducible refine H6.out.allA.mono ?_; rintro e w7 ⟨aA, cA, rfl, h7, o7⟩
                 have H7 := Lib.hid h7
                 have O7 := Lib.hid o7
                 clear h7 o7 H6)
              | (go_at_call 18; with_reducible refine (H7.out.allB O7.out).mono ?_; rintro e w8 ⟨aB, cB, rfl, h8, o8, o7⟩
                 have H8 := Lib.hid h8
                 have HS8 := Lib.hid (same_yes w8 aA aB cA cB M M.length (by have := HM.out; omega) o7.rd o8.rd)
                 clear h8 o8 o7 H7)
              | (go_at_call 19; with_reducible refine HS8.out.mono ?_; rintro e w9 ⟨rfl, q9, rfl⟩
                 have H9 := Lib.hid (H8.out.below (below_drewN _ q9))
                 clear HS8)
              | (go_at_call 15; with_reducible refine (HC1.out _ H9.out).mono ?_; rintro e wa ⟨rfl, ha⟩
                 have Ha := Lib.hid ha
                 have HLa := Lib.hid ha.lenB
                 clear ha H9)
              | (go_at_call 20; with_reducible refine HLa.out.mono ?_; rintro e wb ⟨rfl, rfl⟩)
              | (go_at_call 15; with_reducible refine (HC2.out _ Ha.out).mono ?_; rintro e wc ⟨rfl, hc⟩
                 have Hc := Lib.hid hc
                 clear hc)
              | (go_at_call 18; with_reducible refine Hc.out.allA.mono ?_; rintro e wd ⟨aC, cC, rfl, h7, o7⟩
                 have Hd := Lib.hid h7
                 have Od := Lib.hid o7
                 clear h7 o7)
              | (go_at_call 18; with_reducible refine (Hd.out.allB Od.out).mono ?_; rintro e we ⟨aD, cD, rfl, h8, o8, o7⟩
                 have He := Lib.hid h8
                 have HSe := Lib.hid (same_yes we aC aD cC cD K K.length (by have := HK.out; omega) o7.rd o8.rd)
                 clear h8 o8 o7)
              | (go_at_call 19; with_reducible refine HSe.out.mono ?_; rintro e wf ⟨rfl, qf, rfl⟩))
            go_ret
            exact ⟨rfl, (He.out.below (below_drewN _ _)).be⟩

set_option maxRecDepth 100000 in
theorem lifted (os : Os) (started : os.Started) (H : Type) (enc : TypeId × Value → H) :
    ReturnsInHanded {} Try.checked os 7 .any (Rows.netRoundSpec.pre6 enc Try.prog Try.f7 Rows.netRoundRow.domain false) (Rows.netRoundSpec.post enc Try.prog Try.f7 false true false false) := by
  refine returnsInHanded_of_change (C := Try.checked) own started (by kernel_rfl) Try.func7
    (ChangeSpec.witness6 (enc := enc) (C := Try.checked) false ⟨#[], #[.slice none 0 0, .int .i64 0], []⟩ 8 (by kernel_rfl) (by kernel_rfl) (by kernel_rfl) (by kernel_rfl)) ?_
  intro W base args ds gs before hval0 hW hcnd _
  have hval : ∀ (j : Nat) t v, Try.f7.params[j]? = some t → args[j]? = some v → Value.okWide Try.prog W .any base t v := hval0
  have hW' := hW
  obtain ⟨p, q, hA0, hV, rfl, hfz, hnd⟩ := hW
  have hA : DataW.TrodAll enc Try.prog W 0 (fun _ => true) true Try.f7.params.toList args.toList ds p := hA0
  rw [Try.params7] at hA hval
  obtain ⟨v0, vs0, d0, ds0, p0, q0, hargs, rfl, rfl, h0, r0'⟩ := trodAll_cons hA
  obtain ⟨v1, vs1, d1, ds1, p1, q1, rfl, rfl, rfl, h1, r1'⟩ := trodAll_cons r0'
  obtain ⟨rfl, rfl, rfl⟩ := trodAll_nil r1'
  obtain rfl : args = #[v0, v1] := by cases args; simp_all
  obtain ⟨rfl, rfl⟩ := trodVars_none hV
  have k0 := h0
  have lt0 : ∀ x ∈ p0, x.block < W.heap.size := by obtain ⟨m, hm⟩ := k0; exact DataW.trod_lt m _ _ _ hm
  obtain ⟨a0, n0, c0, l0, rfl, w0⟩ := Nt.open_ltrs h0 (okWide_slice Try.underlying27 (hval 0 27 v0 rfl rfl))
  obtain ⟨x1, rfl, rfl, rfl, w1⟩ := open_int Try.underlying3 (hval 1 3 v1 rfl rfl) h1
  clear hA0 hval0
  refine (walk a0 n0 c0 l0 x1 W w0 w1).mono fun e W' ⟨he, bel⟩ => ?_
  subst he
  exact ⟨_, rfl, _, _, _, [], _, [], hW', trodAll_mk1 (shut_bool Try.underlying4 _), (trodAll_cons_mk (Below.trod laidOut (by kernel_rfl) (of_decide_eq_true (by kernel_rfl)) k0 bel lt0) (trodAll_cons_mk (shut_int Try.underlying3 w1) trodAll_mk0)), rfl, bel.frame _, fun h => by cases h⟩

theorem over : Rows.netRoundRow.holds Try.pinned (OpenSpec.ofChange Rows.netRoundSpec) :=
  OpenClaim.holds_of_wide 7 Try.f7 rfl rfl rfl rfl rfl rfl rfl ⟨rfl, rfl, rfl, rfl, rfl⟩ rfl rfl rfl rfl rfl (by kernel_rfl) Try.func7 (by kernel_rfl)
    (of_decide_eq_true (by kernel_rfl)) (by unfold Func.isWrapper; first | (rw [if_pos (by decide +kernel)]; kernel_rfl) | (rw [if_neg (by decide +kernel)]; exact ⟨rfl, rfl⟩))
    (fun os started H enc _ => lifted os started H enc)

/-- the statement -/
theorem proved : Rows.NetRoundSaid := over
#print axioms proved
end Go.Proofs.Ythbgabmmfokioaa.netRound
