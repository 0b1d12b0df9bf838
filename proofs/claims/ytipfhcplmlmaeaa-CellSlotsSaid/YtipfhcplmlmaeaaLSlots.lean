/-
  PROVED: The bytes of a slot are as the document says, and a cell that finds them, in the first or the second of two sectors, tells them. CONDITIONS: none (any generation, any text).
-/
import Derived.Test.YtipfhcplmlmaeaaOpens
import Derived.Test.YtipfhcplmlmaeaaRef2
import Derived.Deep.RegionHeld
namespace Go.Proofs.Ytipfhcplmlmaeaa.cellSlots
open Go.ChangeShapes Go.WideShapes Go.ChangeAt Go.RowKit Go.Joins
open Go.ChangeMaps (open_string shut_string)
set_option linter.unusedVariables false
set_option linter.unusedSimpArgs false
set_option maxRecDepth 20000

theorem write_fresh {n : Nat} {i : Nat} (hi : i < n) {l : List UInt8} (hl : l.length ≤ 144) : M.writeE n M.fresh i l = 0 ∧ (M.writeD n M.fresh i l).dead = false ∧ ∀ j : Nat, M.seen (M.writeD n M.fresh i l) j = if j = i then M.pad l else M.zero := by
  have e : M.writeE n M.fresh i l = 0 := by rw [Free.fresh.writeE, if_neg (by omega), if_neg (by omega)]
  refine ⟨e, (Free.fresh.write n i l).2, fun j => ?_⟩
  by_cases hj : j = i
  · subst hj
    rw [if_pos rfl, seen_write_same Free.fresh n l e]
  · rw [if_neg hj, seen_write Free.fresh n (by omega), fresh_seen]

set_option maxHeartbeats 4000000 in
theorem walk (x0 : Int) (s1 : ByteArray) (x2 : Bool) (w : World) (w0 : (Lit.int .i64 x0).wf = true) (w1 : s1.size ≤ maxLen) :
    Calls Try.prog 3 #[.int .i64 x0, .string s1, .bool x2] w fun e w' => e = .returned (.bool true) ∧ Below w.heap.size w w' := by
  have HA := Lib.hid (awake_any w)
  clear w0 w1
  by_cases g1 : 1000 < s1.size
  · have g1I : (1000 : Int) < (s1.size : Int) := by omega
    clear g1
    go_enter Try.func3, Try.ntmps3
    go_wp2_with (go_at_call 8; refine HA.out.mono ?_; rintro e w1 ⟨rfl, hb1⟩; have HB1 := Lib.hid hb1; clear hb1)
    go_ret
    exact ⟨rfl, HB1.out⟩
  · have g1I : ¬ ((1000 : Int) < (s1.size : Int)) := by omega
    clear g1
    by_cases hm : M.MayS x0 s1
    · have HM := Lib.hid hm
      have HS := Lib.hid (fun w => slot_yes w x0 s1 hm)
      have HR := Lib.hid (fun w => refslot_yes w x0 s1 hm)
      have HLn := Lib.hid (M.slot_small hm)
      have HPad := Lib.hid (M.rdS_pad hm)
      have hne : (((M.slot x0 s1).length : Int) == 0) = false := by rw [beq_eq_false_iff_ne]; have := HLn.out; omega
      clear hm
      generalize M.slot x0 s1 = la at *
      go_enter Try.func3, Try.ntmps3
      go_wp2_with (first
        | (go_at_call 8; refine HA.out.mono ?_; rintro e w1 ⟨rfl, hb1⟩; have HB1 := Lib.hid hb1; clear hb1)
        | (go_at_call 9; with_reducible refine (HS.out _).mono ?_; rintro e w2 ⟨aA, cA, rfl, ho2, hb2⟩
           have HO2 := Lib.hid ho2
           have HB2 := Lib.hid (HB1.out.trans (hb2.mono HB1.out.size))
           clear ho2 hb2 HS))
      have k0 : (convert 23 9 (.slice aA la.length cA)).run Try.prog w2.drew = .ok (.string (str la)) w2.drew := conv_row (w := w2.drew) HO2.out.row
      have HRw := Lib.hid (HR.out w2.drew)
      go_region_held (fun w' => (convert 23 9 (.slice aA la.length cA)).run Try.prog w' = .ok (.string (str la)) w') (first | exact k0 | exact k1)
        (first
          | (go_at_call 10; with_reducible refine HRw.out.mono ?_; rintro e w3 ⟨aB, cB, rfl, ho3, hb3⟩
             have HR3 := Lib.hid (row_below HO2.out.row (((Below.refl _ w2).drew).trans hb3) (Nat.le_refl _))
             have k1 : (convert 23 9 (.slice aA la.length cA)).run Try.prog w3 = .ok (.string (str la)) w3 := conv_row HR3.out
             have k2 : (convert 23 9 (.slice aB la.length cB)).run Try.prog w3 = .ok (.string (str la)) w3 := conv_row ho3.row
             have HB3 := Lib.hid (HB2.out.trans ((((Below.refl _ w2).drew).trans hb3).mono HB2.out.size))
             clear ho3 hb3))
      cases x2 with
      | false =>
        go_wp2_with (go_at_call 11; refine (new_yes 2 (by omega) _).mono ?_; rintro e w4 ⟨dB, sB, mB, rfl, hd4, hb4, l1, l2, l3⟩
                     have HD4 := Lib.hid hd4
                     have HB4 := Lib.hid (HB3.out.trans (hb4.mono HB3.out.size))
                     have HL : Hid (w.heap.size ≤ dB ∧ w.heap.size ≤ sB ∧ w.heap.size ≤ mB) := Lib.hid ⟨by have := HB3.out.size; omega, by have := HB3.out.size; omega, by have := HB3.out.size; omega⟩
                     have HR4 := Lib.hid (row_below HR3.out hb4 (Nat.le_refl _))
                     have HNe : Hid (∀ b off, aA = some ⟨b, off, none⟩ → b < dB) := Lib.hid (fun b off e => by
                       have := HR3.out.2.2.2
                       rcases this with h0 | ⟨b', off', e', hlt, _⟩
                       · exfalso
                         have : la = [] := by simpa [u8s] using h0
                         have := HLn.out
                         subst la
                         simp at this
                       · rw [e] at e'
                         injection e' with e'
                         injection e' with e1 e2
                         omega)
                     clear hd4 hb4 l1 l2 l3)
        obtain ⟨q1, q2, q3⟩ := write_fresh (n := 2) (i := 0) (by omega) (l := la) (by have := HLn.out; omega)
        have HW := Lib.hid (write_any w4 HD4.out (0 : Nat) (by omega) (by omega) aA la.length cA la HR4.out (.inr fun b off e => by have := HNe.out b off e; simp; omega))
        rw [q1] at HW
        have Hq2 := Lib.hid q2
        have Hq3 := Lib.hid q3
        clear q1 q2 q3
        generalize M.writeD 2 M.fresh ((0 : Nat) : Int) la = d1 at *
        go_wp2_with fail
        refine HW.out.mono ?_
        rintro e w5 ⟨rfl, hd5, hb5⟩
        have HD5 := Lib.hid hd5
        have HB5 := Lib.hid (HB4.out.trans (hb5.to_below (B := w.heap.size) (by have := HL.out; simp; omega) HB4.out.size))
        have HOp := Lib.hid (open_yes w5 HD5.out Hq2.out 0 1 (by omega) (by omega) (by omega))
        rw [Hq3.out 0, Hq3.out 1] at HOp
        simp only [if_true, show ¬ ((1 : Nat) = 0) by omega, if_false] at HOp
        rw [HPad.out, M.rdS_zero, M.f10 HM.out.1] at HOp
        clear hd5 hb5
        go_wp2_with fail
        refine HOp.out.mono ?_
        rintro e w6 ⟨kB, rfl, lk, hk, hb6⟩
        have HG := Lib.hid (get_any w6 hk)
        have HN := Lib.hid (gen_any w6 hk)
        have HB6 := Lib.hid (HB5.out.trans (hb6.mono HB5.out.size))
        clear lk hk hb6
        go_wp2_with (first
          | (go_at_call 14; with_reducible refine HG.out.mono ?_; rintro e w' ⟨rfl, rfl⟩)
          | (go_at_call 15; with_reducible refine HN.out.mono ?_; rintro e w' ⟨rfl, rfl⟩))
        go_ret
        exact ⟨rfl, HB6.out⟩
      | true =>
        go_wp2_with (go_at_call 11; refine (new_yes 2 (by omega) _).mono ?_; rintro e w4 ⟨dB, sB, mB, rfl, hd4, hb4, l1, l2, l3⟩
                     have HD4 := Lib.hid hd4
                     have HB4 := Lib.hid (HB3.out.trans (hb4.mono HB3.out.size))
                     have HL : Hid (w.heap.size ≤ dB ∧ w.heap.size ≤ sB ∧ w.heap.size ≤ mB) := Lib.hid ⟨by have := HB3.out.size; omega, by have := HB3.out.size; omega, by have := HB3.out.size; omega⟩
                     have HR4 := Lib.hid (row_below HR3.out hb4 (Nat.le_refl _))
                     have HNe : Hid (∀ b off, aA = some ⟨b, off, none⟩ → b < dB) := Lib.hid (fun b off e => by
                       have := HR3.out.2.2.2
                       rcases this with h0 | ⟨b', off', e', hlt, _⟩
                       · exfalso
                         have : la = [] := by simpa [u8s] using h0
                         have := HLn.out
                         subst la
                         simp at this
                       · rw [e] at e'
                         injection e' with e'
                         injection e' with e1 e2
                         omega)
                     clear hd4 hb4 l1 l2 l3)
        obtain ⟨q1, q2, q3⟩ := write_fresh (n := 2) (i := 1) (by omega) (l := la) (by have := HLn.out; omega)
        have HW := Lib.hid (write_any w4 HD4.out (1 : Nat) (by omega) (by omega) aA la.length cA la HR4.out (.inr fun b off e => by have := HNe.out b off e; simp; omega))
        rw [q1] at HW
        have Hq2 := Lib.hid q2
        have Hq3 := Lib.hid q3
        clear q1 q2 q3
        generalize M.writeD 2 M.fresh ((1 : Nat) : Int) la = d1 at *
        go_wp2_with fail
        refine HW.out.mono ?_
        rintro e w5 ⟨rfl, hd5, hb5⟩
        have HD5 := Lib.hid hd5
        have HB5 := Lib.hid (HB4.out.trans (hb5.to_below (B := w.heap.size) (by have := HL.out; simp; omega) HB4.out.size))
        have HOp := Lib.hid (open_yes w5 HD5.out Hq2.out 0 1 (by omega) (by omega) (by omega))
        rw [Hq3.out 0, Hq3.out 1] at HOp
        simp only [if_true, show ¬ ((0 : Nat) = 1) by omega, if_false] at HOp
        rw [HPad.out, M.rdS_zero, M.f01 HM.out.1] at HOp
        clear hd5 hb5
        go_wp2_with fail
        refine HOp.out.mono ?_
        rintro e w6 ⟨kB, rfl, lk, hk, hb6⟩
        have HG := Lib.hid (get_any w6 hk)
        have HN := Lib.hid (gen_any w6 hk)
        have HB6 := Lib.hid (HB5.out.trans (hb6.mono HB5.out.size))
        clear lk hk hb6
        go_wp2_with (first
          | (go_at_call 14; with_reducible refine HG.out.mono ?_; rintro e w' ⟨rfl, rfl⟩)
          | (go_at_call 15; with_reducible refine HN.out.mono ?_; rintro e w' ⟨rfl, rfl⟩))
        go_ret
        exact ⟨rfl, HB6.out⟩
    · have HS := Lib.hid (fun w => slot_no w x0 s1 hm)
      have HR := Lib.hid (fun w => refslot_no w x0 s1 hm)
      clear hm
      go_enter Try.func3, Try.ntmps3
      go_wp2_with (first
        | (go_at_call 8; refine HA.out.mono ?_; rintro e w1 ⟨rfl, hb1⟩; have HB1 := Lib.hid hb1; clear hb1)
        | (go_at_call 9; with_reducible refine (HS.out _).mono ?_; rintro e w' ⟨rfl, rfl⟩))
      have k0 : (convert 23 9 (.slice none 0 0)).run Try.prog w1.drew = .ok (.string (str [])) w1.drew := conv_row (w := w1.drew) (l := []) (row_nil _)
      have HRw := Lib.hid (HR.out w1.drew)
      generalize str [] = em at *
      go_region_held (fun w' => (convert 23 9 (.slice none 0 0)).run Try.prog w' = .ok (.string em) w') (first | exact k0) (first | (go_at_call 10; with_reducible refine HRw.out.mono ?_; rintro e w' ⟨rfl, rfl⟩))
      go_wp2_with fail
      go_ret
      exact ⟨rfl, HB1.out.drew⟩

set_option maxRecDepth 100000 in
theorem lifted (os : Os) (started : os.Started) (H : Type) (enc : TypeId × Value → H) :
    ReturnsInHanded {} Try.checked os 3 .any (Rows.cellSlotsSpec.pre6 enc Try.prog Try.f3 Rows.cellSlotsRow.domain false) (Rows.cellSlotsSpec.post enc Try.prog Try.f3 false true false false) := by
  refine returnsInHanded_of_change (C := Try.checked) own started (by kernel_rfl) Try.func3
    (ChangeSpec.witness6 (enc := enc) (C := Try.checked) false ⟨#[], #[.int .i64 0, .string ⟨#[]⟩, .bool false], []⟩ 8 (by kernel_rfl) (by kernel_rfl) (by kernel_rfl) (by kernel_rfl)) ?_
  intro W base args ds gs before hval0 hW hcnd _
  have hval : ∀ (j : Nat) t v, Try.f3.params[j]? = some t → args[j]? = some v → Value.okWide Try.prog W .any base t v := hval0
  have hW' := hW
  obtain ⟨p, q, hA0, hV, rfl, hfz, hnd⟩ := hW
  have hA : DataW.TrodAll enc Try.prog W 0 (fun _ => true) true Try.f3.params.toList args.toList ds p := hA0
  rw [Try.params3] at hA hval
  obtain ⟨v0, vs0, d0, ds0, p0, q0, hargs, rfl, rfl, h0, r0'⟩ := trodAll_cons hA
  obtain ⟨v1, vs1, d1, ds1, p1, q1, rfl, rfl, rfl, h1, r1'⟩ := trodAll_cons r0'
  obtain ⟨v2, vs2, d2, ds2, p2, q2, rfl, rfl, rfl, h2, r2'⟩ := trodAll_cons r1'
  obtain ⟨rfl, rfl, rfl⟩ := trodAll_nil r2'
  obtain rfl : args = #[v0, v1, v2] := by cases args; simp_all
  obtain ⟨rfl, rfl⟩ := trodVars_none hV
  obtain ⟨x0, rfl, rfl, rfl, w0⟩ := open_int Try.underlying2 (hval 0 2 v0 rfl rfl) h0
  obtain ⟨s1, rfl, rfl, rfl, w1⟩ := open_string Try.underlying9 (hval 1 9 v1 rfl rfl) h1
  obtain ⟨x2, rfl, rfl, rfl⟩ := open_bool Try.underlying4 (hval 2 4 v2 rfl rfl) h2
  clear hA0 hval0
  refine (walk x0 s1 x2 W w0 w1).mono fun e W' ⟨he, bel⟩ => ?_
  subst he
  exact ⟨_, rfl, _, _, _, [], _, [], hW', trodAll_mk1 (shut_bool Try.underlying4 _), (trodAll_cons_mk (shut_int Try.underlying2 w0) (trodAll_cons_mk (shut_string Try.underlying9 w1) (trodAll_cons_mk (shut_bool Try.underlying4 x2) trodAll_mk0))), rfl, bel.frame _, fun h => by cases h⟩

theorem over : Rows.cellSlotsRow.holds Try.pinned (OpenSpec.ofChange Rows.cellSlotsSpec) :=
  OpenClaim.holds_of_wide 3 Try.f3 rfl rfl rfl rfl rfl rfl rfl ⟨rfl, rfl, rfl, rfl, rfl⟩ rfl rfl rfl rfl rfl (by kernel_rfl) Try.func3 (by kernel_rfl)
    (of_decide_eq_true (by kernel_rfl)) (by unfold Func.isWrapper; first | (rw [if_pos (by decide +kernel)]; kernel_rfl) | (rw [if_neg (by decide +kernel)]; exact ⟨rfl, rfl⟩))
    (fun os started H enc _ => lifted os started H enc)

/-- the statement -/
theorem proved : Rows.CellSlotsSaid := over
#print axioms proved
end Go.Proofs.Ytipfhcplmlmaeaa.cellSlots
