/-
  PROVED: As many letters are under way as may be, and no more; with one taken there is room for one. CONDITIONS: none (any letter; any number).
-/
import Derived.Test.YthbgabmmfokioaaNtOpen
namespace Go.Proofs.Ythbgabmmfokioaa.netFull
open Go.ChangeShapes Go.WideShapes Go.ChangeAt Go.RowKit Go.Joins
set_option linter.unusedVariables false
set_option linter.unusedSimpArgs false
set_option maxRecDepth 20000

open Nt
theorem takeL_rep (n : Nat) (y : Lt) (i : Int) : takeL (List.replicate (n + 1) y) i = List.replicate n y := by
  have h := ix_lt i (show 0 < (List.replicate (n + 1) y).length by simp)
  simp only [List.length_replicate] at h
  unfold takeL cutL
  simp only [List.length_replicate, List.take_replicate, List.drop_replicate, List.replicate_append_replicate]
  congr 1
  omega
theorem takeV_rep (n : Nat) (y : Lt) (i : Int) : takeV (List.replicate (n + 1) y) i = y := by
  have h := takeV_get (l := List.replicate (n + 1) y) i (by simp)
  rw [List.getElem?_replicate] at h
  split at h
  · injection h with h; exact h.symm
  · cases h
theorem takeB_rep (n : Nat) (y : Lt) : takeB (List.replicate (n + 1) y) = true := by simp [takeB, List.replicate_succ]
section
variable {W w' : World} {p : Nat} {y : Lt}
theorem send_rep (h0 : sendE [] y = 0) {k : Nat} (hk : k < 300) (h : Rx W w' p (List.replicate k y)) : Calls Try.prog 11 #[.pointer (some ⟨p, 0, none⟩), ltV y] w' fun e w'' => e = .returned (.int .i64 0) ∧ Rx W w'' p (List.replicate (k + 1) y) := by
  have e := sendE_room (m := List.replicate k y) h0 (by simpa using hk)
  have := h.send y
  rw [e, sendL_ok e] at this
  rwa [List.replicate_succ']
theorem send_full (h0 : sendE [] y = 0) (h : Rx W w' p (List.replicate 300 y)) : Calls Try.prog 11 #[.pointer (some ⟨p, 0, none⟩), ltV y] w' fun e w'' => e = .returned (.int .i64 5) ∧ Rx W w'' p (List.replicate 300 y) := by
  have e := sendE_full (m := List.replicate 300 y) h0 (by simp)
  have := h.send y
  rw [e, sendL_no (by rw [e]; decide)] at this
  exact this
theorem copy_full (h : Rx W w' p (List.replicate 300 y)) (i : Int) : Calls Try.prog 15 #[.pointer (some ⟨p, 0, none⟩), .int .i64 i] w' fun e w'' => e = .returned (.bool false) ∧ Rx W w'' p (List.replicate 300 y) := by
  have e : copyB (List.replicate 300 y) = false := by simp [copyB]
  have := h.copy i
  rwa [e, copyL_no e] at this
theorem copy_room (h : Rx W w' p (List.replicate 299 y)) (i : Int) : Calls Try.prog 15 #[.pointer (some ⟨p, 0, none⟩), .int .i64 i] w' fun e w'' => e = .returned (.bool true) ∧ Rx W w'' p (List.replicate 300 y) := by
  have e : copyB (List.replicate 299 y) = true := by simp [copyB, List.replicate_succ]
  have := h.copy i
  rw [e, copyL_ok e, takeV_rep 298] at this
  rwa [show List.replicate 300 y = List.replicate 299 y ++ [y] from List.replicate_succ']
theorem drop_rep (h : Rx W w' p (List.replicate 300 y)) (i : Int) : Calls Try.prog 17 #[.pointer (some ⟨p, 0, none⟩), .int .i64 i] w' fun e w'' => e = .returned (.bool true) ∧ Rx W w'' p (List.replicate 299 y) := by
  have := h.drop i
  rwa [takeB_rep 299, takeL_rep 299] at this
theorem take_rep (h : Rx W w' p (List.replicate 300 y)) (i : Int) : Calls Try.prog 13 #[.pointer (some ⟨p, 0, none⟩), .int .i64 i] w' fun e w'' => e = .returned (.tuple #[ltV y, .bool true]) ∧ Rx W w'' p (List.replicate 299 y) := by
  have := h.take i
  rwa [takeB_rep 299, takeL_rep 299, takeV_rep 299] at this
theorem len_rep {k : Nat} (h : Rx W w' p (List.replicate k y)) : Calls Try.prog 20 #[.pointer (some ⟨p, 0, none⟩)] w' fun e w'' => e = .returned (.int .i64 (k : Int)) ∧ w' = w'' := by
  have := h.len
  rwa [List.length_replicate] at this
end
/-- the law's own letter is where it lay -/
theorem kept {w wr : World} {p : Nat} {l : List Lt} {fr to : Int} {body : ByteArray} (h : Rx (w.alloc (.cells #[.int .i64 fr, .int .i64 to, .string body] 31)) wr p l) :
    wr.cell? ⟨w.heap.size, 0, none⟩ = some (.int .i64 fr) ∧ wr.cell? ⟨w.heap.size, 1, none⟩ = some (.int .i64 to) ∧ wr.cell? ⟨w.heap.size, 2, none⟩ = some (.string body) := by
  have hb := h.be
  have hn := heap_alloc_new w (.cells #[.int .i64 fr, .int .i64 to, .string body] 31)
  refine ⟨?_, ?_, ?_⟩ <;> (rw [hb.cell (by simp), cell_of_row _ _ _ _ _ _ hn]; rfl)
theorem u8_mod9 (x : Int) (h : (Lit.int .u8 x).wf = true) : ∃ r : Nat, r < 9 ∧ x.tmod 9 = (r : Int) ∧ 0 ≤ x ∧ x ≤ 255 := by
  have hx : 0 ≤ x ∧ x ≤ 255 := by
    simp [Lit.wf, IntKind.min, IntKind.max, IntKind.signed, IntKind.bits] at h
    omega
  have h1 : 0 ≤ x.tmod 9 := Int.tmod_nonneg _ hx.1
  have h2 : x.tmod 9 < 9 := Int.tmod_lt_of_pos _ (by decide)
  exact ⟨(x.tmod 9).toNat, by omega, by omega, hx⟩

set_option maxHeartbeats 1000000 in
theorem walk_no (y : Lt) (x1 : Int) (w : World) (h0 : sendE [] y ≠ 0) :
    Calls Try.prog 8 #[ltV y, .int .u8 x1] w fun e w' => e = .returned (.bool true) ∧ Below w.heap.size w w' := by
  have HS : Hid (∀ W w' p, Rx W w' p [] → Calls Try.prog 11 #[.pointer (some ⟨p, 0, none⟩), ltV y] w' fun e w'' => ∃ E : Int, (E != 0) = true ∧ e = .returned (.int .i64 E) ∧ Rx W w'' p []) := Lib.hid fun W w' p h => by
    have := h.send y
    rw [sendL_no h0] at this
    exact this.mono fun e w'' k => ⟨_, by simpa using h0, k.1, k.2⟩
  have HL : Hid (∀ W w' p, Rx W w' p [] → Calls Try.prog 20 #[.pointer (some ⟨p, 0, none⟩)] w' fun e w'' => e = .returned (.int .i64 0) ∧ w' = w'') := Lib.hid fun W w' p h => h.len
  obtain ⟨fr, to, body⟩ := y
  simp only [ltV] at HS ⊢
  clear h0
  go_enter Try.func8, Try.ntmps8
  go_wp2_with (first
    | (go_at_call 9; with_reducible refine (awake_any _).mono ?_; rintro e w1 ⟨rfl, hb1⟩
       have HB := Lib.hid hb1
       clear hb1)
    | (go_at_call 10; with_reducible refine (new_run _ _ HB.out).mono ?_; rintro e w2 ⟨p, rfl, h1, _, _⟩
       have H : Hid (Rx (w.alloc (.cells #[.int .i64 fr, .int .i64 to, .string body] 31)) w2 p []) := Lib.hid ⟨_, h1⟩
       have c0 := (kept H.out).1
       have c1 := (kept H.out).2.1
       have c2 := (kept H.out).2.2
       clear h1)
    | (go_at_call 11; with_reducible refine (HS.out _ _ _ H.out).mono ?_; rintro e w3 ⟨E, hE, rfl, h3⟩
       have H3 := Lib.hid h3
       clear h3)
    | (go_at_call 20; with_reducible refine (HL.out _ _ _ H3.out).mono ?_; rintro e w4 ⟨rfl, rfl⟩))
  go_ret
  exact ⟨rfl, ((Below.refl _ _).alloc (Nat.le_refl _) _).trans (H3.out.be.mono (by simp))⟩

set_option maxHeartbeats 4000000 in
theorem walk (y0 : Nt.Lt) (x1 : Int) (w : World) (w1 : (Lit.int .u8 x1).wf = true) :
    Calls Try.prog 8 #[Nt.ltV y0, .int .u8 x1] w fun e w' => e = .returned (.bool true) ∧ Below w.heap.size w w' := by
  by_cases h0 : sendE [] y0 = 0
  case neg => exact walk_no y0 x1 w h0
  obtain ⟨m, hm, hmod, hx0, hx1⟩ := u8_mod9 x1 w1
  have HS : Hid (∀ W w' p k, k < 300 → Rx W w' p (List.replicate k y0) → Calls Try.prog 11 #[.pointer (some ⟨p, 0, none⟩), ltV y0] w' fun e w'' => e = .returned (.int .i64 0) ∧ Rx W w'' p (List.replicate (k + 1) y0)) := Lib.hid fun W w' p k hk h => send_rep h0 hk h
  have HF : Hid (∀ W w' p, Rx W w' p (List.replicate 300 y0) → Calls Try.prog 11 #[.pointer (some ⟨p, 0, none⟩), ltV y0] w' fun e w'' => e = .returned (.int .i64 5) ∧ Rx W w'' p (List.replicate 300 y0)) := Lib.hid fun W w' p h => send_full h0 h
  have HT : Hid (∀ W w' p i, Rx W w' p (List.replicate 300 y0) → Calls Try.prog 13 #[.pointer (some ⟨p, 0, none⟩), .int .i64 i] w' fun e w'' => e = .returned (.tuple #[ltV y0, .bool true]) ∧ Rx W w'' p (List.replicate 299 y0)) := Lib.hid fun W w' p i h => take_rep h i
  have HMod := Lib.hid hmod
  clear h0 hmod w1
  obtain ⟨fr, to, body⟩ := y0
  simp only [ltV] at HS HF HT ⊢
  have hg := lt_guard
  have hp := lt_held
  have hmI : (m : Int) < 9 := by omega
  go_enter Try.func8, Try.ntmps8
  go_wp2_with (first
    | (go_at_call 9; with_reducible refine (awake_any _).mono ?_; rintro e w1 ⟨rfl, hb1⟩
       have HB := Lib.hid hb1
       clear hb1)
    | (go_at_call 10; with_reducible refine (new_run _ _ HB.out).mono ?_; rintro e w2 ⟨p, rfl, h1, _, _⟩
       have H : Hid (Rx (w.alloc (.cells #[.int .i64 fr, .int .i64 to, .string body] 31)) w2 p []) := Lib.hid ⟨_, h1⟩
       have c0 := (kept H.out).1
       have c1 := (kept H.out).2.1
       have c2 := (kept H.out).2.2
       clear h1)
    | (go_at_call 11; with_reducible refine (HS.out _ _ _ 0 (by decide) H.out).mono ?_; rintro e w3 ⟨rfl, h3⟩
       have H3 := Lib.hid h3
       clear h3))
  go_loopw [6] (fun i wr => ∃ k : Nat, 1 ≤ k ∧ k ≤ 300 ∧ i = .int .i64 (k : Int) ∧ Rx (w.alloc (.cells #[.int .i64 fr, .int .i64 to, .string body] 31)) wr p (List.replicate k ⟨fr, to, body⟩)) (fun i _ => 300 - (intOf i).toNat)
  case atStart => exact ⟨1, by omega, by omega, rfl, H3.out⟩
  case round =>
    obtain ⟨k, hk1, hk2, rfl, hr⟩ := hrel
    have c0 := (kept hr).1
    have c1 := (kept hr).2.1
    have c2 := (kept hr).2.2
    have HR := Lib.hid hr
    clear hr
    by_cases hlt : k < 300
    · have hltI : (k : Int) < 300 := by omega
      go_wp2_with (go_at_call 11; with_reducible refine (HS.out _ _ _ k hlt HR.out).mono ?_; rintro e w4 ⟨rfl, h4⟩
                   have H4 := Lib.hid h4
                   clear h4)
      go_roundw
      case rel => exact ⟨k + 1, by omega, by omega, by go_num, H4.out⟩
      case measure => simp [intOf]; omega
    · obtain rfl : k = 300 := by omega
      clear hlt hk1 hk2
      go_wp2
      rw [show ((300 : Nat) : Int) = 300 from rfl]
      go_loopw [7] (fun i wr => ∃ k : Nat, k ≤ m ∧ i = .int .i64 (k : Int) ∧ Rx (w.alloc (.cells #[.int .i64 fr, .int .i64 to, .string body] 31)) wr p (List.replicate 300 ⟨fr, to, body⟩)) (fun i _ => m - (intOf i).toNat)
      case atStart => exact ⟨0, by omega, rfl, HR.out⟩
      case round =>
        obtain ⟨k, hk1, rfl, hr⟩ := hrel
        have d0 := (kept hr).1
        have d1 := (kept hr).2.1
        have d2 := (kept hr).2.2
        have HR2 := Lib.hid hr
        have q1 : x1.tmod 9 = (m : Int) := HMod.out
        have q2 : x1 % 9 = (m : Int) := by rw [← HMod.out, Int.tmod_eq_emod_of_nonneg hx0]
        clear hr c0 c1 c2
        by_cases hlt : k < m
        · have hltI : (k : Int) < (m : Int) := by omega
          have hltD : decide ((k : Int) < (m : Int)) = true := by simpa using hltI
          go_wp2_with (first
            | (go_at_call 11; with_reducible refine (HF.out _ _ _ HR2.out).mono ?_; rintro e w5 ⟨rfl, h5⟩
               have H5 := Lib.hid h5
               clear h5)
            | (go_at_call 15; with_reducible refine (copy_full H5.out _).mono ?_; rintro e w6 ⟨rfl, h6⟩
               have H6 := Lib.hid h6
               clear h6))
          go_roundw
          case rel => exact ⟨k + 1, by omega, by go_num, H6.out⟩
          case measure => simp [intOf]; omega
        · obtain rfl : k = m := by omega
          go_wp2_with (first
            | (go_at_call 20; with_reducible refine (len_rep HR2.out).mono ?_; rintro e w5 ⟨rfl, rfl⟩)
            | (go_at_call 17; with_reducible refine (drop_rep HR2.out _).mono ?_; rintro e w6 ⟨rfl, h6⟩
               have H6 := Lib.hid h6
               clear h6)
            | (go_at_call 15; with_reducible refine (copy_room H6.out _).mono ?_; rintro e w7 ⟨rfl, h7⟩
               have H7 := Lib.hid h7
               clear h7 H6)
            | (go_at_call 15; with_reducible refine (copy_full H7.out _).mono ?_; rintro e w8 ⟨rfl, h8⟩
               have H8 := Lib.hid h8
               clear h8)
            | (go_at_call 13; with_reducible refine (HT.out _ _ _ _ H8.out).mono ?_; rintro e w9 ⟨rfl, h9⟩
               have H9 := Lib.hid h9
               have H9b := Lib.hid (h9.below ((Below.refl _ _).alloc (Nat.le_refl _) (.cells #[.int .i64 fr, .int .i64 to, .string body] 31)))
               have e0 := (kept H9b.out).1
               have e1 := (kept H9b.out).2.1
               have e2 := (kept H9b.out).2.2
               clear h9)
            | (go_at_call 20; with_reducible refine (len_rep H9b.out).mono ?_; rintro e wa ⟨rfl, rfl⟩)
            | (go_at_call 11; with_reducible refine (HS.out _ _ _ 299 (by decide) H9b.out).mono ?_; rintro e wb ⟨rfl, hb⟩
               have Hb := Lib.hid hb
               clear hb))
          go_ret
          exact ⟨rfl, ((Below.refl _ _).alloc (Nat.le_refl _) _).trans (Hb.out.be.mono (by simp))⟩

set_option maxRecDepth 100000 in
theorem lifted (os : Os) (started : os.Started) (H : Type) (enc : TypeId × Value → H) :
    ReturnsInHanded {} Try.checked os 8 .any (Rows.netFullSpec.pre6 enc Try.prog Try.f8 Rows.netFullRow.domain false) (Rows.netFullSpec.post enc Try.prog Try.f8 false true false false) := by
  refine returnsInHanded_of_change (C := Try.checked) own started (by kernel_rfl) Try.func8
    (ChangeSpec.witness6 (enc := enc) (C := Try.checked) false ⟨#[], #[.agg #[.int .i64 0, .int .i64 0, .string ⟨#[]⟩], .int .u8 0], []⟩ 8 (by kernel_rfl) (by kernel_rfl) (by kernel_rfl) (by kernel_rfl)) ?_
  intro W base args ds gs before hval0 hW hcnd _
  have hval : ∀ (j : Nat) t v, Try.f8.params[j]? = some t → args[j]? = some v → Value.okWide Try.prog W .any base t v := hval0
  have hW' := hW
  obtain ⟨p, q, hA0, hV, rfl, hfz, hnd⟩ := hW
  have hA : DataW.TrodAll enc Try.prog W 0 (fun _ => true) true Try.f8.params.toList args.toList ds p := hA0
  rw [Try.params8] at hA hval
  obtain ⟨v0, vs0, d0, ds0, p0, q0, hargs, rfl, rfl, h0, r0'⟩ := trodAll_cons hA
  obtain ⟨v1, vs1, d1, ds1, p1, q1, rfl, rfl, rfl, h1, r1'⟩ := trodAll_cons r0'
  obtain ⟨rfl, rfl, rfl⟩ := trodAll_nil r1'
  obtain rfl : args = #[v0, v1] := by cases args; simp_all
  obtain ⟨rfl, rfl⟩ := trodVars_none hV
  have k0 := h0
  have lt0 : ∀ x ∈ p0, x.block < W.heap.size := by obtain ⟨m, hm⟩ := k0; exact DataW.trod_lt m _ _ _ hm
  obtain ⟨y0, rfl⟩ := Nt.open_lt (hval 0 31 v0 rfl rfl) h0
  obtain ⟨x1, rfl, rfl, rfl, w1⟩ := open_int Try.underlying5 (hval 1 5 v1 rfl rfl) h1
  clear hA0 hval0
  refine (walk y0 x1 W w1).mono fun e W' ⟨he, bel⟩ => ?_
  subst he
  exact ⟨_, rfl, _, _, _, [], _, [], hW', trodAll_mk1 (shut_bool Try.underlying4 _), (trodAll_cons_mk (Below.trod laidOut (by kernel_rfl) (of_decide_eq_true (by kernel_rfl)) k0 bel lt0) (trodAll_cons_mk (shut_int Try.underlying5 w1) trodAll_mk0)), rfl, bel.frame _, fun h => by cases h⟩

theorem over : Rows.netFullRow.holds Try.pinned (OpenSpec.ofChange Rows.netFullSpec) :=
  OpenClaim.holds_of_wide 8 Try.f8 rfl rfl rfl rfl rfl rfl rfl ⟨rfl, rfl, rfl, rfl, rfl⟩ rfl rfl rfl rfl rfl (by kernel_rfl) Try.func8 (by kernel_rfl)
    (of_decide_eq_true (by kernel_rfl)) (by unfold Func.isWrapper; first | (rw [if_pos (by decide +kernel)]; kernel_rfl) | (rw [if_neg (by decide +kernel)]; exact ⟨rfl, rfl⟩))
    (fun os started H enc _ => lifted os started H enc)

/-- the statement -/
theorem proved : Rows.NetFullSaid := over
#print axioms proved
end Go.Proofs.Ythbgabmmfokioaa.netFull
