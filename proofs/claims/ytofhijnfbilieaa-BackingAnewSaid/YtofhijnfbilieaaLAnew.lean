/-
  PROVED: opened anew a store is the same: its token, table, versions and bytes. CONDITIONS: none (any number of blocks; any messages, of which up to 60 are taken).
-/
import Derived.Test.YtofhijnfbilieaaBkRun
namespace Go.Proofs.Ytofhijnfbilieaa.backingAnew
open Go.ChangeShapes Go.WideShapes Go.ChangeAt Go.RowKit Go.Joins
open Go.ChangeMaps (open_string shut_string)
set_option linter.unusedVariables false
set_option linter.unusedSimpArgs false
set_option maxRecDepth 20000

open Bk

set_option maxHeartbeats 4000000 in
theorem walk (x0 : Int) (a1 : Option Addr) (n1 c1 : Nat) (l1 : List Ml.Mg) (w : World) (w0 : (Lit.int .u8 x0).wf = true) (w1 : Bk.Ms w a1 n1 c1 l1) :
    Calls Try.prog 7 #[.int .u8 x0, .slice a1 n1 c1] w fun e w' => e = .returned (.bool true) ∧ Below w.heap.size w w' := by
  have hx := u8_in w0
  obtain ⟨bl, hbl⟩ : ∃ bl, bl = (x0 % 32).toNat + 1 := ⟨_, rfl⟩
  have hb32 : 1 ≤ bl ∧ bl ≤ 32 := by omega
  have HA := Lib.hid (awake_any w)
  have HL := Lib.hid (lopen_run w hx hbl)
  have HMs := Lib.hid w1
  have hlen : l1.length = n1 := w1.1
  have hcap : n1 ≤ 9223372036854775807 := by have := w1.2.1; have := w1.2.2.1; simp only [maxLen] at this; omega
  have Hb := Lib.hid hb32
  clear w0 w1 hx hbl hb32
  go_enter Try.func7, Try.ntmps7
  go_wp2_with (first
    | (go_at_call 8; with_reducible refine HA.out.mono ?_; rintro e w1 ⟨rfl, hb1⟩
       have HB1 := Lib.hid hb1
       clear hb1)
    | (go_at_call 9; with_reducible refine (HL.out _ HB1.out).mono ?_; rintro e w2 ⟨dB, sB, mB, tB, K, rfl, hrs⟩
       have HR0 := Lib.hid hrs
       clear hrs))
  clear HA HL HB1
  go_loopw [8] (fun i wr => ∃ (k : Nat) (d : M.Dv) (C : Cs), k ≤ n1 ∧ k ≤ 60 ∧ i = .int .i64 (k : Int) ∧ RS w wr dB sB mB (2 + 2 * bl) bl d tB K C (2 * k)) (fun i _ => 60 - (intOf i).toNat)
  case atStart => exact ⟨0, _, _, by omega, by omega, rfl, HR0.out⟩
  case round =>
    obtain ⟨k, d, C, hk1, hk2, rfl, hr⟩ := hrel
    have HR := Lib.hid hr
    clear hr
    by_cases hlt : k < n1 ∧ k < 60
    · have g1 : (k : Int) < (n1 : Int) := by omega
      have g2 : (k : Int) < 60 := by omega
      have g0 : (0 : Int) ≤ (k : Int) := by omega
      obtain ⟨m, hm⟩ : ∃ m, l1[k]? = some m := ⟨_, List.getElem?_eq_getElem (by omega)⟩
      obtain ⟨b, off, rfl, hb, hc⟩ := ms_at HMs.out hm
      have HTk := Lib.hid (HR.out.take (by omega) m)
      obtain ⟨kind, epoch, seq, nn, block, client, e, t0, t1, t2, t3, data, row⟩ := m
      obtain ⟨q0, q1, q2, q3, q4, q5, q6, q7, q8, q9, q10, q11, q12⟩ := ms13 (w := wr) (b := b) (off := off) (k := k) fun i v hv => (HR.out.be.cell (p := ⟨b, off + (k * 13 + i), none⟩) hb).trans (hc i v hv)
      simp only at q0 q1 q2 q3 q4 q5 q6 q7 q8 q9 q10 q11 q12
      simp only [Ml.msgV, Ml.Mg.cells] at HTk
      clear hc hm
      by_cases hd1 : 1000 < (data.size : Int)
      · go_wp2
        go_ret
        exact ⟨rfl, HR.out.be⟩
      · by_cases hd2 : 1000 < (row.size : Int)
        · go_wp2
          go_ret
          exact ⟨rfl, HR.out.be⟩
        · go_wp2_with (go_at_call 12; refine HTk.out.mono ?_; rintro e w4 ⟨rfl, hrs, _⟩; have HR4 := Lib.hid hrs; clear hrs)
          go_roundw
          case rel => exact ⟨k + 1, _, _, by omega, by omega, by go_num, by have := HR4.out; rwa [show (2 * (k : Int) + 2) = 2 * ((k + 1 : Nat) : Int) by omega] at this⟩
          case measure => simp [intOf]; omega
    · have HO : Hid (Calls Try.prog 15 #[.pointer (some ⟨dB, 0, none⟩), .int .i64 0, .int .i64 (bl : Int)] wr fun e w' => ∃ tB2 K2, e = .returned (.tuple #[.pointer (some ⟨tB2, 0, none⟩), .int .i64 0]) ∧ ST w' dB sB mB (2 + 2 * bl) d tB2 bl 0 K2 (there d 0) ∧ RS w w' dB sB mB (2 + 2 * bl) bl d tB K C (2 * k)) := Lib.hid (by
        refine (bopen_yes wr HR.out.st.dev HR.out.fr.fr.2 0 bl Hb.out (by omega)).mono ?_
        rintro e w' ⟨tB2, K2, rfl, _, _, h3, h4⟩
        exact ⟨tB2, K2, rfl, h3, HR.out.below h4⟩)
      obtain ⟨ag1, ag2, ag3⟩ := HR.out.fr.again
      have HP : Hid (∀ w', ST w' dB sB mB (2 + 2 * bl) d tB bl 0 K C → Calls Try.prog 19 #[.pointer (some ⟨dB, 0, none⟩)] w' fun e w'' => ∃ a cap, e = .returned (.slice a 0 cap) ∧ Below w'.heap.size w' w'') := Lib.hid fun w' h => by
        refine (pending_any w' h.dev).mono ?_
        rintro e w'' ⟨v, rfl, ho, hb⟩
        rw [pend_none HR.out.fr.pn] at ho
        obtain ⟨a, cap, rfl, _⟩ := own_row ho (by simp [ints])
        exact ⟨a, cap, rfl, hb⟩
      have HT1 : Hid (∀ w', ST w' dB sB mB (2 + 2 * bl) d tB bl 0 K C → Calls Try.prog 13 #[.pointer (some ⟨tB, 0, none⟩)] w' fun e w'' => e = .returned (.int .i64 (token C)) ∧ Below w'.heap.size w' w'') := Lib.hid fun w' h => tok_any w' h
      have HT2 : Hid (∀ w' tB2 K2, ST w' dB sB mB (2 + 2 * bl) d tB2 bl 0 K2 (there d 0) → Calls Try.prog 13 #[.pointer (some ⟨tB2, 0, none⟩)] w' fun e w'' => e = .returned (.int .i64 (token C)) ∧ Below w'.heap.size w' w'') := Lib.hid fun w' tB2 K2 h => by rw [← ag1]; exact tok_any w' h
      have HB1 : Hid (∀ w', ST w' dB sB mB (2 + 2 * bl) d tB bl 0 K C → Calls Try.prog 17 #[.pointer (some ⟨tB, 0, none⟩)] w' fun e w'' => e = .returned (t4V (tab C bl)) ∧ Below w'.heap.size w' w'') := Lib.hid fun w' h => table_any w' h
      have HB2 : Hid (∀ w' tB2 K2, ST w' dB sB mB (2 + 2 * bl) d tB2 bl 0 K2 (there d 0) → Calls Try.prog 17 #[.pointer (some ⟨tB2, 0, none⟩)] w' fun e w'' => e = .returned (t4V (tab C bl)) ∧ Below w'.heap.size w' w'') := Lib.hid fun w' tB2 K2 h => by rw [← ag3]; exact table_any w' h
      have HG1 : Hid (∀ w' i, ST w' dB sB mB (2 + 2 * bl) d tB bl 0 K C → Calls Try.prog 11 #[.pointer (some ⟨tB, 0, none⟩), .int .i64 i] w' fun e w'' => e = .returned (.tuple #[verV (getV bl C i).1 (getV bl C i).2.1, .string (getV bl C i).2.2]) ∧ Below w'.heap.size w' w'') := Lib.hid fun w' i h => bget_any w' h i
      have HG2 : Hid (∀ w' tB2 K2 i, ST w' dB sB mB (2 + 2 * bl) d tB2 bl 0 K2 (there d 0) → Calls Try.prog 11 #[.pointer (some ⟨tB2, 0, none⟩), .int .i64 i] w' fun e w'' => e = .returned (.tuple #[verV (getV bl C i).1 (getV bl C i).2.1, .string (getV bl C i).2.2]) ∧ Below w'.heap.size w' w'') := Lib.hid fun w' tB2 K2 i h => by rw [← ag2 i]; exact bget_any w' h i
      clear ag1 ag2 ag3
      generalize token C = tk at *
      generalize tab C bl = X at *
      obtain ⟨xa, xb, xc, xd⟩ := X
      simp only [t4V, verV] at HB1 HB2 HG1 HG2
      have an := arr4_neq xa xb xc xd xa xb xc xd
      simp only [and_self, decide_true, Bool.not_true] at an
      have Hb1 := Hb.out
      have hnot : (¬ k < n1) ∨ (k < n1 ∧ ¬ k < 60) := by omega
      rcases hnot with h9 | ⟨h8, h9⟩
      case' inl => have g1 : decide ((k : Int) < (n1 : Int)) = false := by simpa using h9
      case' inr => have g1 : (k : Int) < (n1 : Int) := by omega
                   have g2 : decide ((k : Int) < 60) = false := by simp; omega
      all_goals
        clear hlt
        go_wp2_with (first
          | (go_at_call 15; with_reducible refine HO.out.mono ?_; rintro e w4 ⟨tB2, K2, rfl, hs2, hr2⟩
             have S4 := Lib.hid hs2
             have R4 := Lib.hid hr2
             clear hs2 hr2)
          | (go_at_call 13; with_reducible refine (HT2.out _ _ _ S4.out).mono ?_; rintro e w5 ⟨rfl, hb5⟩
             have S5 := Lib.hid (S4.out.below hb5)
             have R5 := Lib.hid (R4.out.below hb5)
             clear hb5)
          | (go_at_call 13; with_reducible refine (HT1.out _ R5.out.st).mono ?_; rintro e w6 ⟨rfl, hb6⟩
             have S6 := Lib.hid (S5.out.below hb6)
             have R6 := Lib.hid (R5.out.below hb6)
             clear hb6)
          | (go_at_call 17; with_reducible refine (HB2.out _ _ _ S6.out).mono ?_; rintro e w7 ⟨rfl, hb7⟩
             have S7 := Lib.hid (S6.out.below hb7)
             have R7 := Lib.hid (R6.out.below hb7)
             clear hb7)
          | (go_at_call 17; with_reducible refine (HB1.out _ R7.out.st).mono ?_; rintro e w8 ⟨rfl, hb8⟩
             have S8 := Lib.hid (S7.out.below hb8)
             have R8 := Lib.hid (R7.out.below hb8)
             clear hb8))
        clear HT1 HT2 HB1 HB2 an HO
        go_loopw [11] (fun i wr' => ∃ j : Int, i = .int .i64 j ∧ -1 ≤ j ∧ j ≤ (bl : Int) + 1 ∧ ST wr' dB sB mB (2 + 2 * bl) d tB2 bl 0 K2 (there d 0) ∧ RS w wr' dB sB mB (2 + 2 * bl) bl d tB K C (2 * k)) (fun i _ => ((bl : Int) + 1 - intOf i).toNat)
        case atStart => exact ⟨-1, rfl, by omega, by omega, S8.out, R8.out⟩
        case round =>
          obtain ⟨j, rfl, hj1, hj2, hs9, hr9⟩ := hrel
          have S9 := Lib.hid hs9
          have R9 := Lib.hid hr9
          clear hs9 hr9
          by_cases hjb : j ≤ (bl : Int)
          · have HGa := Lib.hid (fun w' h => HG1.out w' j h)
            have HGb := Lib.hid (fun w' tB2 K2 h => HG2.out w' tB2 K2 j h)
            generalize getV bl C j = gv at *
            obtain ⟨gp, gq, gs⟩ := gv
            simp only at HGa HGb
            have vn := ver_neq gp gq gp gq
            simp only [and_self, decide_true, Bool.not_true] at vn
            have hb32 : (bl : Int) ≤ 32 := by omega
            go_wp2_with (first
              | (go_at_call 11; with_reducible refine (HGa.out _ R9.out.st).mono ?_; rintro e w10 ⟨rfl, hb10⟩
                 have hb11 := hb10.alloc hb10.size (.cells #[.int .i64 gp, .int .i64 gq] 37)
                 have V10 := Lib.hid (Bo.new w10 #[.int .i64 gp, .int .i64 gq] 37)
                 have S10 := Lib.hid (S9.out.below hb11)
                 have R10 := Lib.hid (R9.out.below hb11)
                 clear hb10 hb11)
              | (go_at_call 11; with_reducible refine (HGb.out _ _ _ S10.out).mono ?_; rintro e w12 ⟨rfl, hb12⟩
                 have hb13 := hb12.alloc hb12.size (.cells #[.int .i64 gp, .int .i64 gq] 37)
                 have V12 := V10.out.below hb13 V10.out.lt
                 have S12 := Lib.hid (S10.out.below hb13)
                 have R12 := Lib.hid (R10.out.below hb13)
                 have v0 := V12.cell 0
                 have v1 := V12.cell 1
                 simp only [List.getElem?_toArray, List.getElem?_cons_zero, List.getElem?_cons_succ] at v0 v1
                 clear hb12 hb13 V12))
            go_roundw
            case rel => exact ⟨j + 1, by go_num, by omega, by omega, S12.out, R12.out⟩
            case measure => simp [intOf]; omega
          · go_wp2_with (go_at_call 19; with_reducible refine (HP.out _ R9.out.st).mono ?_; rintro e w10 ⟨aP, cP, rfl, hb10⟩; have R10 := Lib.hid (R9.out.below hb10); clear hb10)
            go_ret
            exact ⟨rfl, R10.out.be⟩

set_option maxRecDepth 100000 in
theorem lifted (os : Os) (started : os.Started) (H : Type) (enc : TypeId × Value → H) :
    ReturnsInHanded {} Try.checked os 7 .any (Rows.backingAnewSpec.pre6 enc Try.prog Try.f7 Rows.backingAnewRow.domain false) (Rows.backingAnewSpec.post enc Try.prog Try.f7 false true false false) := by
  refine returnsInHanded_of_change (C := Try.checked) own started (by kernel_rfl) Try.func7
    (ChangeSpec.witness6 (enc := enc) (C := Try.checked) false ⟨#[], #[.int .u8 0, .slice none 0 0], []⟩ 8 (by kernel_rfl) (by kernel_rfl) (by kernel_rfl) (by kernel_rfl)) ?_
  intro W base args ds gs before hval0 hW hcnd _
  have hval : ∀ (j : Nat) t v, Try.f7.params[j]? = some t → args[j]? = some v → Value.okWide Try.prog W .any base t v := hval0
  have hW' := hW
  obtain ⟨p, q, hA0, hV, rfl, hfz, hnd⟩ := hW
  have hA : DataW.TrodAll enc Try.prog W 0 (fun _ => true) true Try.f7.params.toList args.toList ds p := hA0
  rw [Try.params7] at hA hval
  obtain ⟨v0, vs0, d0, ds0, p0, q0, hargs, rfl, rfl, h0, r0'⟩ := trodAll_cons hA
  obtain ⟨v1, vs1, d1, ds1, p1, q1, rfl, rfl, rfl, h1, r1'⟩ := trodAll_cons r0'
  obtain ⟨rfl, rfl, rfl⟩ := trodAll_nil r1'
  obtain rfl : args = #[v0, v1] := by cases args; simp_all
  obtain ⟨rfl, rfl⟩ := trodVars_none hV
  obtain ⟨x0, rfl, rfl, rfl, w0⟩ := open_int Try.underlying5 (hval 0 5 v0 rfl rfl) h0
  have k1 := h1
  have lt1 : ∀ x ∈ p1, x.block < W.heap.size := by obtain ⟨m, hm⟩ := k1; exact DataW.trod_lt m _ _ _ hm
  obtain ⟨a1, n1, c1, l1, rfl, w1⟩ := Bk.open_msgs h1 (okWide_slice Try.underlying50 (hval 1 50 v1 rfl rfl))
  clear hA0 hval0
  refine (walk x0 a1 n1 c1 l1 W w0 w1).mono fun e W' ⟨he, bel⟩ => ?_
  subst he
  exact ⟨_, rfl, _, _, _, [], _, [], hW', trodAll_mk1 (shut_bool Try.underlying4 _), (trodAll_cons_mk (shut_int Try.underlying5 w0) (trodAll_cons_mk (Below.trod laidOut (by kernel_rfl) (of_decide_eq_true (by kernel_rfl)) k1 bel lt1) trodAll_mk0)), rfl, bel.frame _, fun h => by cases h⟩

theorem over : Rows.backingAnewRow.holds Try.pinned (OpenSpec.ofChange Rows.backingAnewSpec) :=
  OpenClaim.holds_of_wide 7 Try.f7 rfl rfl rfl rfl rfl rfl rfl ⟨rfl, rfl, rfl, rfl, rfl⟩ rfl rfl rfl rfl rfl (by kernel_rfl) Try.func7 (by kernel_rfl)
    (of_decide_eq_true (by kernel_rfl)) (by unfold Func.isWrapper; first | (rw [if_pos (by decide +kernel)]; kernel_rfl) | (rw [if_neg (by decide +kernel)]; exact ⟨rfl, rfl⟩))
    (fun os started H enc _ => lifted os started H enc)

/-- the statement -/
theorem proved : Rows.BackingAnewSaid := over
#print axioms proved
end Go.Proofs.Ytofhijnfbilieaa.backingAnew
