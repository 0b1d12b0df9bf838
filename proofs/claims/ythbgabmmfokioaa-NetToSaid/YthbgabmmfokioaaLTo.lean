/-
  PROVED: The first letter to a place is the one that is told; taken by that, one goes on to the next one; others stay. CONDITIONS: none (any letters, of which up to 400 are sent; any place).
-/
import Derived.Test.YthbgabmmfokioaaNtTwo
namespace Go.Proofs.Ythbgabmmfokioaa.netTo
open Go.ChangeShapes Go.WideShapes Go.ChangeAt Go.RowKit Go.Joins
set_option linter.unusedVariables false
set_option linter.unusedSimpArgs false
set_option maxRecDepth 20000

open Nt
def P (q : Int) (x : Lt) : Bool := x.to == q
def N (q : Int) (x : Lt) : Bool := !(x.to == q)
theorem toK_some (q : Int) : ∀ {m : List Lt} {x : Lt} {r : List Lt}, m.filter (P q) = x :: r → ∃ j, toK m q = some j ∧ m[j]? = some x ∧ (cutL m j).filter (P q) = r ∧ (cutL m j).filter (N q) = m.filter (N q)
  | [], x, r, h => by simp at h
  | y :: m, x, r, h => by
    by_cases hy : (y.to == q) = true
    · have hp : P q y = true := hy
      rw [List.filter_cons_of_pos hp] at h
      injection h with h1 h2
      subst h1
      have hn : ¬ (N q y = true) := by simp [N, hy]
      refine ⟨0, by simp [toK, List.findIdx?_cons, hy], rfl, by simpa [cutL] using h2, ?_⟩
      rw [List.filter_cons_of_neg hn]
      simp [cutL]
    · have hp : ¬ (P q y = true) := hy
      rw [List.filter_cons_of_neg hp] at h
      obtain ⟨j, h1, h2, h3, h4⟩ := toK_some q h
      have hn : N q y = true := by simpa [N] using hy
      have hc : cutL (y :: m) (j + 1) = y :: cutL m j := by simp [cutL]
      refine ⟨j + 1, ?_, by simpa using h2, ?_, ?_⟩
      · unfold toK at h1 ⊢
        rw [List.findIdx?_cons, if_neg hy, h1]; rfl
      · rw [hc, List.filter_cons_of_neg hp]; exact h3
      · rw [hc, List.filter_cons_of_pos hn, List.filter_cons_of_pos hn, h4]
theorem toK_none (q : Int) {m : List Lt} (h : m.filter (P q) = []) : toK m q = none ∧ m.filter (N q) = m := by
  have hx : ∀ x ∈ m, ¬ (P q x = true) := by simpa [List.filter_eq_nil_iff] using h
  refine ⟨List.findIdx?_eq_none_iff.2 fun x hm => by have := hx x hm; simpa [P] using this, List.filter_eq_self.2 fun x hm => by have := hx x hm; simpa [P, N] using this⟩
theorem ix_small {j n : Nat} (h : j < n) : ix (j : Int) n = j := by
  unfold ix
  rw [Int.emod_eq_of_lt (by omega) (by omega)]; simp
/-- a letter that is sent to the place, or not -/
theorem grow_yes {q : Int} {ls : List Lt} {x : Lt} (h : x.to = q) : (ls ++ [x]).filter (P q) = ls.filter (P q) ++ [x] ∧ (ls ++ [x]).filter (N q) = ls.filter (N q) := by
  have h1 : P q x = true := by simpa [P] using h
  have h2 : ¬ (N q x = true) := by simpa [N] using h
  simp only [List.filter_append, List.filter_cons_of_pos h1, List.filter_cons_of_neg h2, List.filter_nil, List.append_nil, and_self]
theorem grow_no {q : Int} {ls : List Lt} {x : Lt} (h : x.to ≠ q) : (ls ++ [x]).filter (P q) = ls.filter (P q) ∧ (ls ++ [x]).filter (N q) = ls.filter (N q) ++ [x] := by
  have h1 : ¬ (P q x = true) := by simpa [P] using h
  have h2 : N q x = true := by simpa [N] using h
  simp only [List.filter_append, List.filter_cons_of_neg h1, List.filter_cons_of_pos h2, List.filter_nil, List.append_nil, and_self]

set_option maxHeartbeats 4000000 in
theorem walk (a0 : Option Addr) (n0 c0 : Nat) (l0 : List Nt.Lt) (x1 : Int) (w : World) (w0 : Nt.AL w a0 n0 c0 l0) (w1 : (Lit.int .i64 x1).wf = true) :
    Calls Try.prog 6 #[.slice a0 n0 c0, .int .i64 x1] w fun e w' => e = .returned (.bool true) ∧ Below w.heap.size w w' := by
  obtain ⟨hrd, hcap, hmax⟩ := w0
  have HA := Lib.hid hrd
  have HLen : Hid (l0.length = n0) := Lib.hid hrd.1
  have hm0 : n0 ≤ 9223372036854775807 := by have := hcap; simp only [maxLen] at hmax; omega
  have hg := lt_guard
  have hp := lt_held
  clear hrd hcap hmax
  go_enter Try.func6, Try.ntmps6
  go_wp2_with (first
    | (go_at_call 9; with_reducible refine (awake_any _).mono ?_; rintro e w1 ⟨rfl, hb1⟩
       have HB := Lib.hid hb1
       clear hb1)
    | (go_at_call 10; with_reducible refine (new_run _ _ HB.out).mono ?_; rintro e w2 ⟨p, rfl, h1, _, _⟩
       have H := Lib.hid (NX.new h1)
       clear h1))
  go_loopw [6, 7, 8] (fun sl tl i wr => ∃ (k : Nat) (ls : List Lt) (s t : Option Addr) (cs ct : Nat), k ≤ n0 ∧ k ≤ 400 ∧ i = .int .i64 (k : Int) ∧ sl = .slice s (ls.filter (P x1)).length cs ∧ tl = .slice t (ls.filter (N x1)).length ct ∧ NX w wr p ls s cs (ls.filter (P x1)) t ct (ls.filter (N x1))) (fun _ _ i _ => 400 - (intOf i).toNat)
  case atStart => exact ⟨0, [], _, _, 0, 0, by omega, by omega, rfl, rfl, rfl, by
    have := H.out.makeS.makeT
    rw [show (w2.alloc (.cells #[] 31)).heap.size = w2.heap.size + 1 by simp] at this
    exact this⟩
  case round =>
    obtain ⟨k, ls, s, t, cs, ct, hk1, hk2, rfl, rfl, rfl, hr⟩ := hrel
    have HR := Lib.hid hr
    have hl3 : ls.length ≤ 300 := hr.len3
    have hfp : (ls.filter (P x1)).length ≤ ls.length := List.length_filter_le _ _
    have hfn : (ls.filter (N x1)).length ≤ ls.length := List.length_filter_le _ _
    have hfpI : ((ls.filter (P x1)).length : Int) ≤ 300 := by omega
    clear hr
    by_cases hlt : k < n0 ∧ k < 400
    · have hltI : (k : Int) < (n0 : Int) := by omega
      have hltJ : (k : Int) < 400 := by omega
      obtain ⟨⟨fr, to, body⟩, hx⟩ : ∃ x, l0[k]? = some x := ⟨_, List.getElem?_eq_getElem (by have := HLen.out; omega)⟩
      obtain ⟨b, off, rfl, hb, c0, c1, c2⟩ := HA.out.at hx
      simp only at c0 c1 c2
      have d0 : wr.cell? ⟨b, off + k * 3, none⟩ = some (.int .i64 fr) := (HR.out.be.cell hb).trans c0
      have d1 : wr.cell? ⟨b, off + k * 3 + 1, none⟩ = some (.int .i64 to) := (HR.out.be.cell hb).trans c1
      have d2 : wr.cell? ⟨b, off + k * 3 + 2, none⟩ = some (.string body) := (HR.out.be.cell hb).trans c2
      have C0 := Lib.hid c0
      have C1 := Lib.hid c1
      have C2 := Lib.hid c2
      have HBb := Lib.hid hb
      have HS := Lib.hid (HR.out.send ⟨fr, to, body⟩)
      simp only [ltV] at HS
      clear c0 c1 c2 hx hb
      by_cases hE : sendE ls ⟨fr, to, body⟩ = 0
      · rw [hE, sendL_ok hE] at HS
        clear hE
        by_cases hq : to = x1
        · have hqb : (to == x1) = true := by simpa using hq
          have HG := Lib.hid (grow_yes (ls := ls) (x := ⟨fr, to, body⟩) hq)
          clear hq
          go_wp2_with (first
            | (go_at_call 11; with_reducible refine HS.out.mono ?_; rintro e w4 ⟨rfl, h4⟩
               have e0 : w4.cell? ⟨b, off + k * 3, none⟩ = some (.int .i64 fr) := (h4.be.cell HBb.out).trans C0.out
               have e1 : w4.cell? ⟨b, off + k * 3 + 1, none⟩ = some (.int .i64 to) := (h4.be.cell HBb.out).trans C1.out
               have e2 : w4.cell? ⟨b, off + k * 3 + 2, none⟩ = some (.string body) := (h4.be.cell HBb.out).trans C2.out
               have HN := Lib.hid (h4.below ((Below.refl _ _).alloc (Nat.le_refl _) (.cells #[.int .i64 fr, .int .i64 to, .string body] 31)))
               have HRd := Lib.hid (rd_one (x := ⟨fr, to, body⟩) (heap_alloc_new w4 (.cells #[.int .i64 fr, .int .i64 to, .string body] 31)))
               clear h4)
            | (at_builtin
               refine wpList_append_L _ rfl (.tmp 45) (.tmp 50) rfl s _ cs _ rfl rfl HN.out.rs _ 1 1 [⟨fr, to, body⟩] rfl HRd.out (by omega) ?_
               intro s' c' w5 o g an
               have H5 := Lib.hid (HN.out.appS o g an)
               clear o g an))
          go_roundw
          case rel => exact ⟨k + 1, ls ++ [⟨fr, to, body⟩], s', t, c', ct, by omega, by omega, by go_num, by rw [HG.out.1]; simp, by rw [HG.out.2], by rw [HG.out.1, HG.out.2]; exact H5.out⟩
          case measure => simp [intOf]; omega
        · have hqb : (to == x1) = false := by simpa using hq
          have HG := Lib.hid (grow_no (ls := ls) (x := ⟨fr, to, body⟩) hq)
          clear hq
          go_wp2_with (first
            | (go_at_call 11; with_reducible refine HS.out.mono ?_; rintro e w4 ⟨rfl, h4⟩
               have e0 : w4.cell? ⟨b, off + k * 3, none⟩ = some (.int .i64 fr) := (h4.be.cell HBb.out).trans C0.out
               have e1 : w4.cell? ⟨b, off + k * 3 + 1, none⟩ = some (.int .i64 to) := (h4.be.cell HBb.out).trans C1.out
               have e2 : w4.cell? ⟨b, off + k * 3 + 2, none⟩ = some (.string body) := (h4.be.cell HBb.out).trans C2.out
               have HN := Lib.hid (h4.below ((Below.refl _ _).alloc (Nat.le_refl _) (.cells #[.int .i64 fr, .int .i64 to, .string body] 31)))
               have HRd := Lib.hid (rd_one (x := ⟨fr, to, body⟩) (heap_alloc_new w4 (.cells #[.int .i64 fr, .int .i64 to, .string body] 31)))
               clear h4)
            | (at_builtin
               refine wpList_append_L _ rfl (.tmp 52) (.tmp 57) rfl t _ ct _ rfl rfl HN.out.rt _ 1 1 [⟨fr, to, body⟩] rfl HRd.out (by omega) ?_
               intro t' c' w5 o g an
               have H5 := Lib.hid (HN.out.appT o g an)
               clear o g an))
          go_roundw
          case rel => exact ⟨k + 1, ls ++ [⟨fr, to, body⟩], s, t', cs, c', by omega, by omega, by go_num, by rw [HG.out.1], by rw [HG.out.2]; simp, by rw [HG.out.1, HG.out.2]; exact H5.out⟩
          case measure => simp [intOf]; omega
      · rw [sendL_no hE] at HS
        obtain ⟨E, hEE⟩ : ∃ E, sendE ls ⟨fr, to, body⟩ = E := ⟨_, rfl⟩
        rw [hEE] at HS hE
        have h0 : (E != 0) = true := by simpa using hE
        clear hE hEE
        go_wp2_with (go_at_call 11; with_reducible refine HS.out.mono ?_; rintro e w4 ⟨rfl, h4⟩
                     have H4 := Lib.hid h4
                     clear h4)
        go_roundw
        case rel => exact ⟨k + 1, ls, s, t, cs, ct, by omega, by omega, by go_num, rfl, rfl, H4.out⟩
        case measure => simp [intOf]; omega
    · have hnot : (¬ k < n0) ∨ (k < n0 ∧ ¬ k < 400) := by omega
      rcases hnot with h9 | ⟨h8, h9⟩
      case' inr => have g1 : (k : Int) < (n0 : Int) := by omega
                   have g2 : decide ((k : Int) < 400) = false := by simp; omega
      all_goals
        clear hlt
        go_wp2
        go_loopw [61] (fun i wr => ∃ (j : Nat) (m : List Lt), j ≤ (ls.filter (P x1)).length ∧ i = .int .i64 (j : Int) ∧ m.filter (P x1) = (ls.filter (P x1)).drop j ∧ m.filter (N x1) = ls.filter (N x1) ∧ NX w wr p m s cs (ls.filter (P x1)) t ct (ls.filter (N x1))) (fun i _ => (ls.filter (P x1)).length - (intOf i).toNat)
        case atStart => exact ⟨0, ls, by omega, rfl, by simp, rfl, HR.out⟩
        case round =>
          obtain ⟨j, m, hj, rfl, hm1, hm2, hr2⟩ := hrel
          have HR2 := Lib.hid hr2
          have HM1 := Lib.hid hm1
          have HM2 := Lib.hid hm2
          clear hr2 hm1 hm2
          by_cases hlt2 : j < (ls.filter (P x1)).length
          · have hlt2I : (j : Int) < ((ls.filter (P x1)).length : Int) := by omega
            obtain ⟨⟨fr, to, body⟩, hx⟩ : ∃ x, (ls.filter (P x1))[j]? = some x := ⟨_, List.getElem?_eq_getElem hlt2⟩
            have hd : (ls.filter (P x1)).drop j = ⟨fr, to, body⟩ :: (ls.filter (P x1)).drop (j + 1) := by
              rw [List.drop_eq_getElem_cons hlt2]
              congr 1
              exact (List.getElem?_eq_some_iff.1 hx).2
            obtain ⟨i, h1, h2, h3, h4⟩ := toK_some x1 (HM1.out.trans hd)
            have hi : i < m.length := (List.getElem?_eq_some_iff.1 h2).1
            have hT := HR2.out.take (i : Int)
            have hTo := HR2.out.to x1
            have hV : toV m x1 = .tuple #[.int .i64 (i : Int), .bool true] := by unfold toV; rw [h1]
            rw [hV] at hTo
            have hixi := ix_small hi
            have hT1 : takeV m (i : Int) = ⟨fr, to, body⟩ := takeV_at (by rw [hixi]; exact h2)
            have hT2 : takeB m = true := by cases m; simp at h2; rfl
            have hT3 : takeL m (i : Int) = cutL m i := by unfold takeL; rw [hixi]
            have HTo := Lib.hid hTo
            have HT : Hid (∀ w', NX w w' p m s cs (ls.filter (P x1)) t ct (ls.filter (N x1)) → Calls Try.prog 13 #[.pointer (some ⟨p, 0, none⟩), .int .i64 (i : Int)] w' fun e w'' => e = .returned (.tuple #[.agg #[.int .i64 fr, .int .i64 to, .string body], .bool true]) ∧ NX w w'' p (cutL m i) s cs (ls.filter (P x1)) t ct (ls.filter (N x1))) := Lib.hid fun w' h => by
              have := h.take (i : Int)
              rw [hT1, hT2, hT3] at this
              exact this
            have HX := Lib.hid hx
            have H3 := Lib.hid h3
            have H4 := Lib.hid (h4.trans HM2.out)
            clear hx hd h1 h2 h3 h4 hi hT hTo hV hixi hT1 hT2 hT3
            go_wp2_with (first
              | (go_at_call 21; with_reducible refine HTo.out.mono ?_; rintro e w7 ⟨rfl, h7⟩
                 have H7 := Lib.hid h7
                 clear h7)
              | (go_at_call 13; with_reducible refine (HT.out _ H7.out).mono ?_; rintro e w8 ⟨rfl, h8⟩
                 have HN := Lib.hid (h8.below ((Below.refl _ _).alloc (Nat.le_refl _) (.cells #[.int .i64 fr, .int .i64 to, .string body] 31)))
                 clear h8))
            obtain ⟨b, off, rfl, hb, c0, c1, c2⟩ := HN.out.rs.rd.at HX.out
            simp only at c0 c1 c2
            go_quiet (fail)
            go_wp2
            go_roundw
            case rel => exact ⟨j + 1, cutL m i, by omega, by go_num, H3.out, H4.out, HN.out.below (below_drewN _ _)⟩
            case measure => simp [intOf]; omega
          · have hje : (ls.filter (P x1)).drop j = [] := by simp; omega
            obtain ⟨h1, h2⟩ := toK_none x1 (HM1.out.trans hje)
            have h3 : m = ls.filter (N x1) := h2.symm.trans HM2.out
            have hTo := HR2.out.to x1
            have hV : toV m x1 = .tuple #[.int .i64 0, .bool false] := by unfold toV; rw [h1]
            rw [hV] at hTo
            have HTo := Lib.hid hTo
            have HAll : Hid (∀ w', NX w w' p m s cs (ls.filter (P x1)) t ct (ls.filter (N x1)) → Calls Try.prog 18 #[.pointer (some ⟨p, 0, none⟩)] w' fun e w'' => ∃ a' cap', e = .returned (.slice a' (ls.filter (N x1)).length cap') ∧ NX w w'' p m s cs (ls.filter (P x1)) t ct (ls.filter (N x1)) ∧ OwnL w'' a' cap' (ls.filter (N x1))) := Lib.hid fun w' h => by
              refine h.all.mono ?_
              rintro e w'' ⟨a', cap', rfl, k1, k2, _⟩
              rw [h3] at k2
              exact ⟨a', cap', by rw [← h3], k1, k2⟩
            clear hje h1 h2 h3 hTo hV
            go_wp2_with (first
              | (go_at_call 21; with_reducible refine HTo.out.mono ?_; rintro e w7 ⟨rfl, h7⟩
                 have H7 := Lib.hid h7
                 clear h7)
              | (go_at_call 18; with_reducible refine (HAll.out _ H7.out).mono ?_; rintro e w6 ⟨aA, cA, rfl, h6, o6⟩
                 have H6 := Lib.hid h6
                 have HS6 := Lib.hid (same_yes w6 aA t cA ct (ls.filter (N x1)) (ls.filter (N x1)).length (by omega) o6.rd h6.rt.rd)
                 clear h6 o6)
              | (go_at_call 19; with_reducible refine HS6.out.mono ?_; rintro e w9 ⟨rfl, q, rfl⟩))
            go_ret
            exact ⟨rfl, (H6.out.below (below_drewN _ _)).be⟩

set_option maxRecDepth 100000 in
theorem lifted (os : Os) (started : os.Started) (H : Type) (enc : TypeId × Value → H) :
    ReturnsInHanded {} Try.checked os 6 .any (Rows.netToSpec.pre6 enc Try.prog Try.f6 Rows.netToRow.domain false) (Rows.netToSpec.post enc Try.prog Try.f6 false true false false) := by
  refine returnsInHanded_of_change (C := Try.checked) own started (by kernel_rfl) Try.func6
    (ChangeSpec.witness6 (enc := enc) (C := Try.checked) false ⟨#[], #[.slice none 0 0, .int .i64 0], []⟩ 8 (by kernel_rfl) (by kernel_rfl) (by kernel_rfl) (by kernel_rfl)) ?_
  intro W base args ds gs before hval0 hW hcnd _
  have hval : ∀ (j : Nat) t v, Try.f6.params[j]? = some t → args[j]? = some v → Value.okWide Try.prog W .any base t v := hval0
  have hW' := hW
  obtain ⟨p, q, hA0, hV, rfl, hfz, hnd⟩ := hW
  have hA : DataW.TrodAll enc Try.prog W 0 (fun _ => true) true Try.f6.params.toList args.toList ds p := hA0
  rw [Try.params6] at hA hval
  obtain ⟨v0, vs0, d0, ds0, p0, q0, hargs, rfl, rfl, h0, r0'⟩ := trodAll_cons hA
  obtain ⟨v1, vs1, d1, ds1, p1, q1, rfl, rfl, rfl, h1, r1'⟩ := trodAll_cons r0'
  obtain ⟨rfl, rfl, rfl⟩ := trodAll_nil r1'
  obtain rfl : args = #[v0, v1] := by cases args; simp_all
  obtain ⟨rfl, rfl⟩ := trodVars_none hV
  have k0 := h0
  have lt0 : ∀ x ∈ p0, x.block < W.heap.size := by obtain ⟨m, hm⟩ := k0; exact DataW.trod_lt m _ _ _ hm
  obtain ⟨a0, n0, c0, l0, rfl, w0⟩ := Nt.open_ltrs h0 (okWide_slice Try.underlying27 (hval 0 27 v0 rfl rfl))
  obtain ⟨x1, rfl, rfl, rfl, w1⟩ := open_int Try.underlying3 (hval 1 3 v1 rfl rfl) h1
  clear hA0 hval0
  refine (walk a0 n0 c0 l0 x1 W w0 w1).mono fun e W' ⟨he, bel⟩ => ?_
  subst he
  exact ⟨_, rfl, _, _, _, [], _, [], hW', trodAll_mk1 (shut_bool Try.underlying4 _), (trodAll_cons_mk (Below.trod laidOut (by kernel_rfl) (of_decide_eq_true (by kernel_rfl)) k0 bel lt0) (trodAll_cons_mk (shut_int Try.underlying3 w1) trodAll_mk0)), rfl, bel.frame _, fun h => by cases h⟩

theorem over : Rows.netToRow.holds Try.pinned (OpenSpec.ofChange Rows.netToSpec) :=
  OpenClaim.holds_of_wide 6 Try.f6 rfl rfl rfl rfl rfl rfl rfl ⟨rfl, rfl, rfl, rfl, rfl⟩ rfl rfl rfl rfl rfl (by kernel_rfl) Try.func6 (by kernel_rfl)
    (of_decide_eq_true (by kernel_rfl)) (by unfold Func.isWrapper; first | (rw [if_pos (by decide +kernel)]; kernel_rfl) | (rw [if_neg (by decide +kernel)]; exact ⟨rfl, rfl⟩))
    (fun os started H enc _ => lifted os started H enc)

/-- the statement -/
theorem proved : Rows.NetToSaid := over
#print axioms proved
end Go.Proofs.Ythbgabmmfokioaa.netTo
