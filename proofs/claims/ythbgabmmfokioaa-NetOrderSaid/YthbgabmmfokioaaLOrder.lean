/-
  PROVED: What stays stays in its order: taken one by one from the first on, letters come as they were sent. CONDITIONS: none (any letters, of which up to 400 are sent).
-/
import Derived.Test.YthbgabmmfokioaaNtTwo
namespace Go.Proofs.Ythbgabmmfokioaa.netOrder
open Go.ChangeShapes Go.WideShapes Go.ChangeAt Go.RowKit Go.Joins
set_option linter.unusedVariables false
set_option linter.unusedSimpArgs false
set_option maxRecDepth 20000

open Nt
theorem drop_take {l : List Lt} {k : Nat} {x : Lt} (h : l[k]? = some x) : takeV (l.drop k) 0 = x ∧ takeB (l.drop k) = true ∧ takeL (l.drop k) 0 = l.drop (k + 1) := by
  have hk := (List.getElem?_eq_some_iff.1 h).1
  have hd : l.drop k = x :: l.drop (k + 1) := by
    rw [List.drop_eq_getElem_cons hk]
    congr 1
    exact (List.getElem?_eq_some_iff.1 h).2
  have hi : ix 0 (l.drop k).length = 0 := ix_zero _
  refine ⟨?_, ?_, ?_⟩
  · exact takeV_at (by rw [hi, hd]; rfl)
  · rw [hd]; rfl
  · unfold takeL
    rw [hi, hd]
    simp [cutL]
section
variable {w0 w : World} {p : Nat} {s t : Option Addr} {cs ct : Nat} {ms us : List Lt}
theorem none_take (h : NX w0 w p [] s cs ms t ct us) (i : Int) : Calls Try.prog 13 #[.pointer (some ⟨p, 0, none⟩), .int .i64 i] w fun e w' => e = .returned (.tuple #[.agg #[.int .i64 0, .int .i64 0, .string ⟨#[]⟩], .bool false]) ∧ NX w0 w' p [] s cs ms t ct us := by
  have := h.take i
  rwa [takeL_nil] at this
theorem none_copy (h : NX w0 w p [] s cs ms t ct us) (i : Int) : Calls Try.prog 15 #[.pointer (some ⟨p, 0, none⟩), .int .i64 i] w fun e w' => e = .returned (.bool false) ∧ NX w0 w' p [] s cs ms t ct us := h.copy i
theorem none_drop (h : NX w0 w p [] s cs ms t ct us) (i : Int) : Calls Try.prog 17 #[.pointer (some ⟨p, 0, none⟩), .int .i64 i] w fun e w' => e = .returned (.bool false) ∧ NX w0 w' p [] s cs ms t ct us := by
  have := h.drop i
  rwa [takeL_nil] at this
end

set_option maxHeartbeats 4000000 in
theorem walk (a0 : Option Addr) (n0 c0 : Nat) (l0 : List Nt.Lt) (w : World) (w0 : Nt.AL w a0 n0 c0 l0) :
    Calls Try.prog 5 #[.slice a0 n0 c0] w fun e w' => e = .returned (.bool true) ∧ Below w.heap.size w w' := by
  obtain ⟨hrd, hcap, hmax⟩ := w0
  have HA := Lib.hid hrd
  have HLen : Hid (l0.length = n0) := Lib.hid hrd.1
  have hm0 : n0 ≤ 9223372036854775807 := by have := hcap; simp only [maxLen] at hmax; omega
  have hg := lt_guard
  have hp := lt_held
  clear hrd hcap hmax
  go_enter Try.func5, Try.ntmps5
  go_wp2_with (first
    | (go_at_call 9; with_reducible refine (awake_any _).mono ?_; rintro e w1 ⟨rfl, hb1⟩
       have HB := Lib.hid hb1
       clear hb1)
    | (go_at_call 10; with_reducible refine (new_run _ _ HB.out).mono ?_; rintro e w2 ⟨p, rfl, h1, _, _⟩
       have H := Lib.hid (NX.new h1)
       clear h1))
  go_loopw [4, 5] (fun sl i wr => ∃ (k : Nat) (ls : List Lt) (s : Option Addr) (cs : Nat), k ≤ n0 ∧ k ≤ 400 ∧ i = .int .i64 (k : Int) ∧ sl = .slice s ls.length cs ∧ NX w wr p ls s cs ls none 0 []) (fun _ i _ => 400 - (intOf i).toNat)
  case atStart => exact ⟨0, [], _, 0, by omega, by omega, rfl, rfl, H.out.makeS⟩
  case round =>
    obtain ⟨k, ls, s, cs, hk1, hk2, rfl, rfl, hr⟩ := hrel
    have HR := Lib.hid hr
    have hl3 : ls.length ≤ 300 := hr.len3
    have hl3I : (ls.length : Int) ≤ 300 := by omega
    clear hr
    by_cases hlt : k < n0 ∧ k < 400
    · have hltI : (k : Int) < (n0 : Int) := by omega
      have hltJ : (k : Int) < 400 := by omega
      obtain ⟨⟨fr, to, body⟩, hx⟩ : ∃ x, l0[k]? = some x := ⟨_, List.getElem?_eq_getElem (by have := HLen.out; omega)⟩
      obtain ⟨b, off, rfl, hb, c0, c1, c2⟩ := HA.out.at hx
      simp only at c0 c1 c2
      have d0 : wr.cell? ⟨b, off + k * 3, none⟩ = some (.int .i64 fr) := (HR.out.be.cell hb).trans c0
      have d1 : wr.cell? ⟨b, off + k * 3 + 1, none⟩ = some (.int .i64 to) := (HR.out.be.cell hb).trans c1
      have d2 : wr.cell? ⟨b, off + k * 3 + 2, none⟩ = some (.string body) := (HR.out.be.cell hb).trans c2
      have C0 := Lib.hid c0
      have C1 := Lib.hid c1
      have C2 := Lib.hid c2
      have HBb := Lib.hid hb
      have HS := Lib.hid (HR.out.send ⟨fr, to, body⟩)
      simp only [ltV] at HS
      clear c0 c1 c2 hx hb
      by_cases hE : sendE ls ⟨fr, to, body⟩ = 0
      · rw [hE, sendL_ok hE] at HS
        have HlenOK : Hid (ls.length < 300) := Lib.hid (sendE_ok hE).2.2.2.2
        clear hE
        go_wp2_with (first
          | (go_at_call 11; with_reducible refine HS.out.mono ?_; rintro e w4 ⟨rfl, h4⟩
             have H4 := Lib.hid h4
             have e0 : w4.cell? ⟨b, off + k * 3, none⟩ = some (.int .i64 fr) := (h4.be.cell HBb.out).trans C0.out
             have e1 : w4.cell? ⟨b, off + k * 3 + 1, none⟩ = some (.int .i64 to) := (h4.be.cell HBb.out).trans C1.out
             have e2 : w4.cell? ⟨b, off + k * 3 + 2, none⟩ = some (.string body) := (h4.be.cell HBb.out).trans C2.out
             have HN := Lib.hid (h4.below ((Below.refl _ _).alloc (Nat.le_refl _) (.cells #[.int .i64 fr, .int .i64 to, .string body] 31)))
             have HO := Lib.hid HN.out.rs
             have HRd := Lib.hid (rd_one (x := ⟨fr, to, body⟩) (heap_alloc_new w4 (.cells #[.int .i64 fr, .int .i64 to, .string body] 31)))
             clear h4)
          | (at_builtin
             refine wpList_append_L _ rfl (.tmp 34) (.tmp 39) rfl s ls.length cs ls rfl rfl HO.out _ 1 1 [⟨fr, to, body⟩] rfl HRd.out (by omega) ?_
             intro s' c' w5 o g an
             have H5 := Lib.hid (HN.out.appS o g an)
             clear o g an))
        go_roundw
        case rel => exact ⟨k + 1, ls ++ [⟨fr, to, body⟩], s', c', by omega, by omega, by go_num, by simp, H5.out⟩
        case measure => simp [intOf]; omega
      · rw [sendL_no hE] at HS
        obtain ⟨E, hEE⟩ : ∃ E, sendE ls ⟨fr, to, body⟩ = E := ⟨_, rfl⟩
        rw [hEE] at HS hE
        have h0 : (E == 0) = false := by simpa using hE
        by_cases h5 : E = 5
        · have hfull : ls.length = 300 := by
            subst h5
            unfold sendE at hEE
            repeat' split at hEE
            all_goals (first | omega | (cases hEE))
          have hfI : ((ls.length : Int) != 300) = false := by simp [hfull]
          subst h5
          clear hE hEE hfull
          go_wp2_with (go_at_call 11; with_reducible refine HS.out.mono ?_; rintro e w4 ⟨rfl, h4⟩
                       have H4 := Lib.hid h4
                       clear h4)
          go_roundw
          case rel => exact ⟨k + 1, ls, s, cs, by omega, by omega, by go_num, rfl, H4.out⟩
          case measure => simp [intOf]; omega
        · have h5' : (E == 5) = false := by simpa using h5
          clear hE hEE h5
          go_wp2_with (go_at_call 11; with_reducible refine HS.out.mono ?_; rintro e w4 ⟨rfl, h4⟩
                       have H4 := Lib.hid h4
                       clear h4)
          go_roundw
          case rel => exact ⟨k + 1, ls, s, cs, by omega, by omega, by go_num, rfl, H4.out⟩
          case measure => simp [intOf]; omega
    · have hnot : (¬ k < n0) ∨ (k < n0 ∧ ¬ k < 400) := by omega
      have HAll := Lib.hid HR.out.all
      rcases hnot with h9 | ⟨h8, h9⟩
      case' inl => have g1 : decide ((k : Int) < (n0 : Int)) = false := by simpa using h9
      case' inr => have g1 : (k : Int) < (n0 : Int) := by omega
                   have g2 : decide ((k : Int) < 400) = false := by simp; omega
      all_goals
        clear hlt
        go_wp2_with (first
          | (go_at_call 18; with_reducible refine HAll.out.mono ?_; rintro e w6 ⟨aA, cA, rfl, h6, o6, f6⟩
             have H6 := Lib.hid h6
             have HS6 := Lib.hid (same_yes w6 aA s cA cs ls ls.length (by omega) o6.rd h6.rs.rd)
             clear h6 o6 f6)
          | (go_at_call 19; with_reducible refine HS6.out.mono ?_; rintro e w7 ⟨rfl, q, rfl⟩))
        go_loopw [60] (fun i wr => ∃ k2 : Nat, k2 ≤ ls.length ∧ i = .int .i64 (k2 : Int) ∧ NX w wr p (ls.drop k2) s cs ls none 0 []) (fun i _ => ls.length - (intOf i).toNat)
        case atStart => exact ⟨0, by omega, rfl, by simpa using H6.out.below (below_drewN _ _)⟩
        case round =>
          obtain ⟨k2, hk2, rfl, hr2⟩ := hrel
          have HR2 := Lib.hid hr2
          clear hr2
          by_cases hlt2 : k2 < ls.length
          · have hlt2I : (k2 : Int) < (ls.length : Int) := by omega
            obtain ⟨⟨fr, to, body⟩, hx⟩ : ∃ x, ls[k2]? = some x := ⟨_, List.getElem?_eq_getElem hlt2⟩
            have hT := HR2.out.take 0
            obtain ⟨t1, t2, t3⟩ := drop_take hx
            rw [t1, t2, t3] at hT
            simp only [ltV] at hT
            have HT := Lib.hid hT
            have HX := Lib.hid hx
            have e1 : IntKind.i64.wrap ((ls.length : Int) - 1) = (ls.length : Int) - 1 := IntWalk.i64_in _ (by omega)
            have e2 : IntKind.i64.wrap ((ls.length : Int) - 1 - (k2 : Int)) = (ls.length : Int) - 1 - (k2 : Int) := IntWalk.i64_in _ (by omega)
            have E1 := Lib.hid e1
            have E2 := Lib.hid e2
            have hLv : ((ls.drop (k2 + 1)).length : Int) = (ls.length : Int) - 1 - (k2 : Int) := by simp; omega
            have HLv := Lib.hid hLv
            clear hx t1 t2 t3 hT e1 e2 hLv
            go_wp2_with (go_at_call 13; with_reducible refine HT.out.mono ?_; rintro e w8 ⟨rfl, h8⟩
                         have H8 := Lib.hid h8
                         have HN := Lib.hid (h8.below ((Below.refl _ _).alloc (Nat.le_refl _) (.cells #[.int .i64 fr, .int .i64 to, .string body] 31)))
                         clear h8)
            obtain ⟨b, off, rfl, hb, c0, c1, c2⟩ := HN.out.rs.rd.at HX.out
            simp only at c0 c1 c2
            have HLq : Hid (∀ q, Calls Try.prog 20 #[.pointer (some ⟨p, 0, none⟩)] ((w8.alloc (.cells #[.int .i64 fr, .int .i64 to, .string body] 31)).drewN q) fun e w'' => e = .returned (.int .i64 ((ls.length : Int) - 1 - (k2 : Int))) ∧ ∃ m, w'' = (w8.alloc (.cells #[.int .i64 fr, .int .i64 to, .string body] 31)).drewN m) := Lib.hid fun q => by
              refine ((HN.out.below (below_drewN _ q)).len).mono ?_
              rintro e w'' ⟨rfl, rfl⟩
              exact ⟨by rw [HLv.out], q, rfl⟩
            have e1 := E1.out
            have e2 := E2.out
            go_quiet ((go_at_call 20; with_reducible exact HLq.out _))
            clear e1 e2
            go_wp2
            go_roundw
            case rel => exact ⟨k2 + 1, by omega, by go_num, HN.out.below (below_drewN _ _)⟩
            case measure => simp [intOf]; omega
          · have hk2e : k2 = ls.length := by omega
            have hdr : ls.drop k2 = [] := by rw [hk2e]; simp
            have H0 := Lib.hid HR2.out
            rw [hdr] at H0
            clear hdr
            have HT := Lib.hid (none_take H0.out 0)
            go_wp2_with (first
              | (go_at_call 13; with_reducible refine HT.out.mono ?_; rintro e w8 ⟨rfl, h8⟩
                 have HN := Lib.hid (h8.below ((Below.refl _ _).alloc (Nat.le_refl _) (.cells #[.int .i64 0, .int .i64 0, .string ⟨#[]⟩] 31)))
                 clear h8)
              | (go_at_call 15; with_reducible refine (none_copy HN.out 0).mono ?_; rintro e w9 ⟨rfl, h9⟩
                 have H9 := Lib.hid h9
                 clear h9)
              | (go_at_call 17; with_reducible refine (none_drop H9.out 0).mono ?_; rintro e wa ⟨rfl, ha⟩
                 have Ha := Lib.hid ha
                 clear ha))
            go_ret
            exact ⟨rfl, Ha.out.be⟩

set_option maxRecDepth 100000 in
theorem lifted (os : Os) (started : os.Started) (H : Type) (enc : TypeId × Value → H) :
    ReturnsInHanded {} Try.checked os 5 .any (Rows.netOrderSpec.pre6 enc Try.prog Try.f5 Rows.netOrderRow.domain false) (Rows.netOrderSpec.post enc Try.prog Try.f5 false true false false) := by
  refine returnsInHanded_of_change (C := Try.checked) own started (by kernel_rfl) Try.func5
    (ChangeSpec.witness6 (enc := enc) (C := Try.checked) false ⟨#[], #[.slice none 0 0], []⟩ 8 (by kernel_rfl) (by kernel_rfl) (by kernel_rfl) (by kernel_rfl)) ?_
  intro W base args ds gs before hval0 hW hcnd _
  have hval : ∀ (j : Nat) t v, Try.f5.params[j]? = some t → args[j]? = some v → Value.okWide Try.prog W .any base t v := hval0
  have hW' := hW
  obtain ⟨p, q, hA0, hV, rfl, hfz, hnd⟩ := hW
  have hA : DataW.TrodAll enc Try.prog W 0 (fun _ => true) true Try.f5.params.toList args.toList ds p := hA0
  rw [Try.params5] at hA hval
  obtain ⟨v0, vs0, d0, ds0, p0, q0, hargs, rfl, rfl, h0, r0'⟩ := trodAll_cons hA
  obtain ⟨rfl, rfl, rfl⟩ := trodAll_nil r0'
  obtain rfl : args = #[v0] := by cases args; simp_all
  obtain ⟨rfl, rfl⟩ := trodVars_none hV
  have k0 := h0
  have lt0 : ∀ x ∈ p0, x.block < W.heap.size := by obtain ⟨m, hm⟩ := k0; exact DataW.trod_lt m _ _ _ hm
  obtain ⟨a0, n0, c0, l0, rfl, w0⟩ := Nt.open_ltrs h0 (okWide_slice Try.underlying27 (hval 0 27 v0 rfl rfl))
  clear hA0 hval0
  refine (walk a0 n0 c0 l0 W w0).mono fun e W' ⟨he, bel⟩ => ?_
  subst he
  exact ⟨_, rfl, _, _, _, [], _, [], hW', trodAll_mk1 (shut_bool Try.underlying4 _), (trodAll_cons_mk (Below.trod laidOut (by kernel_rfl) (of_decide_eq_true (by kernel_rfl)) k0 bel lt0) trodAll_mk0), rfl, bel.frame _, fun h => by cases h⟩

theorem over : Rows.netOrderRow.holds Try.pinned (OpenSpec.ofChange Rows.netOrderSpec) :=
  OpenClaim.holds_of_wide 5 Try.f5 rfl rfl rfl rfl rfl rfl rfl ⟨rfl, rfl, rfl, rfl, rfl⟩ rfl rfl rfl rfl rfl (by kernel_rfl) Try.func5 (by kernel_rfl)
    (of_decide_eq_true (by kernel_rfl)) (by unfold Func.isWrapper; first | (rw [if_pos (by decide +kernel)]; kernel_rfl) | (rw [if_neg (by decide +kernel)]; exact ⟨rfl, rfl⟩))
    (fun os started H enc _ => lifted os started H enc)

/-- the statement -/
theorem proved : Rows.NetOrderSaid := over
#print axioms proved
end Go.Proofs.Ythbgabmmfokioaa.netOrder
