/-
  PROVED: a record has as many bytes as its parts need: two, those of each number, and one and its bytes for each text; none, where it may not be. CONDITIONS: none (any record).
-/
import Derived.Test.YtdakfhoadfbfiaaBox
import Derived.Test.YtdakfhoadfbfiaaOpen
namespace Go.Proofs.Ytdakfhoadfbfiaa.codeSizes
open Go.ChangeShapes Go.WideShapes Go.ChangeAt Go.RowKit Go.Joins
set_option linter.unusedVariables false
set_option linter.unusedSimpArgs false
set_option maxRecDepth 20000

theorem sum_more (k : Nat) (l : List Int) (v : Int) (h : l[k]? = some v) : ((l.take (k + 1)).map fun n => (M.num n).length).sum = ((l.take k).map fun n => (M.num n).length).sum + (M.num v).length := by
  rw [take_one h]; simp
theorem sum_text (k : Nat) (l : List ByteArray) (v : ByteArray) (h : l[k]? = some v) : ((l.take (k + 1)).map fun t => 1 + t.size).sum = ((l.take k).map fun t => 1 + t.size).sum + (1 + v.size) := by
  rw [take_one h]; simp

set_option maxHeartbeats 1000000 in
theorem walk (r0 : M.Rc) (aN0 : Option Addr) (nN0 cN0 : Nat) (aT0 : Option Addr) (nT0 cT0 : Nat) (w : World) (w0 : RecAt w r0 aN0 nN0 cN0 aT0 nT0 cT0) (f0 : M.Fits r0) :
    Calls Try.prog 9 #[.agg #[.int .i64 r0.kind, .slice aN0 nN0 cN0, .slice aT0 nT0 cT0]] w fun e w' => e = .returned (.bool true) ∧ Below w.heap.size w w' := by
  have H := Lib.hid w0
  have F := Lib.hid f0
  clear w0 f0
  by_cases hl : nN0 ≤ 1000 ∧ nT0 ≤ 1000
  · obtain ⟨hl1, hl2⟩ := hl
    by_cases hm : M.May r0
    · have Hm := Lib.hid hm
      have HnN := Lib.hid H.out.lenN
      have HnT := Lib.hid H.out.lenT
      have hn16 : (nN0 : Int) ≤ 16 := by have := H.out.lenN; have := hm.2.2.1; omega
      have ht4 : (nT0 : Int) ≤ 4 := by have := H.out.lenT; have := hm.2.2.2.1; omega
      clear hm
      go_enter Try.func9, Try.ntmps9
      go_wp2_with (first
        | (go_at_call 12; refine (awake_any _).mono ?_; rintro e w1 ⟨rfl, hb⟩; have B1 := Lib.hid ((Bx.refl w (.cells #[.int .i64 r0.kind, .slice aN0 nN0 cN0, .slice aT0 nT0 cT0] 25)).next hb (Nat.le_refl _)); obtain ⟨c1, c2, c3⟩ := B1.out.cells; clear hb)
        | (go_at_call 13; refine (large_no _ _ _ _ _ _ _ _ hl1 hl2).mono ?_; rintro e w2 ⟨rfl, hb⟩; have B2 := Lib.hid (B1.out.next hb (Nat.le_refl _)); obtain ⟨d1, d2, d3⟩ := B2.out.cells; clear hb)
        | (go_at_call 16; refine (may_yes _ r0 _ _ _ _ _ _ (B2.out.rec H.out) Hm.out).mono ?_; rintro e w3 ⟨rfl, hb⟩; have B3 := Lib.hid (B2.out.next hb (Nat.le_refl _)); obtain ⟨e1, e2, e3⟩ := B3.out.cells; clear hb))
      clear c1 c2 c3 d1 d2 d3
      go_loopw [3, 19] (fun s i wr => ∃ k : Nat, k ≤ nN0 ∧ i = .int .i64 k ∧ s = .int .i64 ((2 + ((r0.nums.take k).map fun n => (M.num n).length).sum : Nat) : Int) ∧ Bx w (.cells #[.int .i64 r0.kind, .slice aN0 nN0 cN0, .slice aT0 nT0 cT0] 25) wr) (fun _ i _ => nN0 - (intOf i).toNat)
      case atStart => exact ⟨0, by omega, rfl, rfl, B3.out⟩
      case round =>
        clear e1 e2 e3
        obtain ⟨k, hk, rfl, rfl, hb⟩ := hrel
        have B := Lib.hid hb
        obtain ⟨e1, e2, e3⟩ := hb.cells
        clear hb
        have hsum := M.sum_le (r0.nums.take k) (fun n => (M.num n).length) 10 (fun n _ => (M.num_len n).2)
        have hlen16 : (r0.nums.take k).length ≤ 16 := by have := HnN.out; rw [List.length_take]; omega
        have hs170 : ((r0.nums.take k).map fun n => (M.num n).length).sum ≤ 160 := by omega
        clear hsum hlen16
        by_cases hlt : k < nN0
        · have hltI : (k : Int) < (nN0 : Int) := by omega
          obtain ⟨b, off, v, rfl, hbv, hv, hcv⟩ := row_i64 H.out.nums k hlt
          have f1 : wr.cell? ⟨b, off + k, none⟩ = some (.int .i64 v) := by rw [B.out.old.cell (p := ⟨b, off + k, none⟩) hbv]; exact hcv
          have Hfit := Lib.hid (F.out v (List.mem_of_getElem? hv))
          have Hsum := Lib.hid (sum_more k r0.nums v hv)
          have hv10 := (M.num_len v).2
          clear hv hcv hbv
          generalize hS : ((r0.nums.take k).map fun n => (M.num n).length).sum = S at *
          have HS := Lib.hid hS
          clear hS
          have hSI : (S : Int) ≤ 160 := by omega
          have hvI : ((M.num v).length : Int) ≤ 10 := by omega
          go_wp2_with (go_at_call 19; refine (number2_any v _ Hfit.out).mono ?_; rintro e w4 ⟨a4, cap4, rfl, ho, hb⟩; have B4 := Lib.hid (B.out.next hb (Nat.le_refl _)); clear hb ho)
          go_roundw
          case rel => exact ⟨k + 1, by omega, by go_num, by rw [Hsum.out, ← Nat.add_assoc]; go_num, B4.out⟩
          case measure => simp [intOf]; omega
        · obtain rfl : k = nN0 := by omega
          have Hall := Lib.hid (show r0.nums.take k = r0.nums from List.take_of_length_le (by have := HnN.out; omega))
          have hs160 := hs170
          rw [Hall.out] at hs160
          rw [Hall.out]
          clear hs170
          generalize hS : (r0.nums.map fun n => (M.num n).length).sum = S at *
          have HS := Lib.hid hS
          clear hS
          have hge : (k : Int) ≤ (k : Int) := Int.le_refl _
          go_wp2_with fail
          go_loopw [3, 35] (fun s i wr => ∃ j : Nat, j ≤ nT0 ∧ i = .int .i64 j ∧ s = .int .i64 ((2 + S + ((r0.texts.take j).map fun t => 1 + t.size).sum : Nat) : Int) ∧ Bx w (.cells #[.int .i64 r0.kind, .slice aN0 k cN0, .slice aT0 nT0 cT0] 25) wr) (fun _ i _ => nT0 - (intOf i).toNat)
          case atStart => exact ⟨0, by omega, rfl, by simp, B.out⟩
          case round =>
            clear e1 e2 e3 B
            obtain ⟨j, hj, rfl, rfl, hb⟩ := hrel
            have B := Lib.hid hb
            obtain ⟨e1, e2, e3⟩ := hb.cells
            clear hb
            have hsum := M.sum_le (r0.texts.take j) (fun t => 1 + t.size) 201 (fun t ht => by have := Hm.out.2.2.2.2 t (List.mem_of_mem_take ht); omega)
            have hlen4 : (r0.texts.take j).length ≤ 4 := by have := HnT.out; rw [List.length_take]; omega
            have hs804 : ((r0.texts.take j).map fun t => 1 + t.size).sum ≤ 804 := by omega
            clear hsum hlen4
            by_cases hlt2 : j < nT0
            · have hltI : (j : Int) < (nT0 : Int) := by omega
              obtain ⟨b, off, v, rfl, hbv, hv, hcv⟩ := row_str H.out.texts j hlt2
              have f1 : wr.cell? ⟨b, off + j, none⟩ = some (.string v) := by rw [B.out.old.cell (p := ⟨b, off + j, none⟩) hbv]; exact hcv
              have Hsum := Lib.hid (sum_text j r0.texts v hv)
              have hv200 := Hm.out.2.2.2.2 v (List.mem_of_getElem? hv)
              clear hv hcv hbv
              generalize hS2 : ((r0.texts.take j).map fun t => 1 + t.size).sum = S2 at *
              have HS2 := Lib.hid hS2
              clear hS2
              have hSI : (S : Int) ≤ 160 := by omega
              have hS2I : (S2 : Int) ≤ 804 := by omega
              have hvI : (v.size : Int) ≤ 200 := by omega
              go_wp2_with fail
              go_roundw
              case rel => exact ⟨j + 1, by omega, by go_num, by rw [Hsum.out, ← Nat.add_assoc]; go_num, B.out⟩
              case measure => simp [intOf]; omega
            · obtain rfl : j = nT0 := by omega
              have Hall2 := Lib.hid (show r0.texts.take j = r0.texts from List.take_of_length_le (by have := HnT.out; omega))
              have Hlen : Hid ((M.enc r0).length = 2 + S + (r0.texts.map fun t => 1 + t.size).sum) := by
                show (M.enc r0).length = _
                rw [M.enc_len, HS.out]
              rw [Hall2.out] at *
              rw [← Hlen.out]
              have hge2 : (j : Int) ≤ (j : Int) := Int.le_refl _
              have hee : (((M.enc r0).length : Int) == ((M.enc r0).length : Int)) = true := by simp
              go_wp2_with (go_at_call 18; refine (size_yes _ r0 _ _ _ _ _ _ (B.out.rec H.out) Hm.out F.out).mono ?_; rintro e w4 ⟨rfl, hb⟩; have B4 := Lib.hid (B.out.next hb (Nat.le_refl _)); clear hb)
              go_ret
              exact ⟨rfl, B4.out.old⟩
    · have Hm := Lib.hid hm
      clear hm
      go_enter Try.func9, Try.ntmps9
      go_wp2_with (first
        | (go_at_call 12; refine (awake_any _).mono ?_; rintro e w1 ⟨rfl, hb⟩; have B1 := Lib.hid ((Bx.refl w (.cells #[.int .i64 r0.kind, .slice aN0 nN0 cN0, .slice aT0 nT0 cT0] 25)).next hb (Nat.le_refl _)); obtain ⟨c1, c2, c3⟩ := B1.out.cells; clear hb)
        | (go_at_call 13; refine (large_no _ _ _ _ _ _ _ _ hl1 hl2).mono ?_; rintro e w2 ⟨rfl, hb⟩; have B2 := Lib.hid (B1.out.next hb (Nat.le_refl _)); obtain ⟨d1, d2, d3⟩ := B2.out.cells; clear hb)
        | (go_at_call 16; refine (may_no _ r0 _ _ _ _ _ _ (B2.out.rec H.out) Hm.out).mono ?_; rintro e w3 ⟨rfl, hb⟩; have B3 := Lib.hid (B2.out.next hb (Nat.le_refl _)); obtain ⟨e1, e2, e3⟩ := B3.out.cells; clear hb)
        | (go_at_call 18; refine (size_no _ r0 _ _ _ _ _ _ (B3.out.rec H.out) Hm.out).mono ?_; rintro e w4 ⟨rfl, hb⟩; have B4 := Lib.hid (B3.out.next hb (Nat.le_refl _)); clear hb))
      go_ret
      exact ⟨rfl, B4.out.old⟩
  · go_enter Try.func9, Try.ntmps9
    go_wp2_with (first
        | (go_at_call 12; refine (awake_any _).mono ?_; rintro e w1 ⟨rfl, hb⟩; have B1 := Lib.hid ((Bx.refl w (.cells #[.int .i64 r0.kind, .slice aN0 nN0 cN0, .slice aT0 nT0 cT0] 25)).next hb (Nat.le_refl _)); obtain ⟨c1, c2, c3⟩ := B1.out.cells; clear hb)
        | (go_at_call 13; refine (large_yes _ _ _ _ _ _ _ _ hl).mono ?_; rintro e w2 ⟨rfl, hb⟩; have B2 := Lib.hid (B1.out.next hb (Nat.le_refl _)); clear hb))
    go_ret
    exact ⟨rfl, B2.out.old⟩

set_option maxRecDepth 100000 in
theorem lifted (os : Os) (started : os.Started) (H : Type) (enc : TypeId × Value → H) :
    ReturnsInHanded {} Try.checked os 9 .any (Rows.codeSizesSpec.pre6 enc Try.prog Try.f9 Rows.codeSizesRow.domain false) (Rows.codeSizesSpec.post enc Try.prog Try.f9 false true false false) := by
  refine returnsInHanded_of_change (C := Try.checked) own started (by kernel_rfl) Try.func9
    (ChangeSpec.witness6 (enc := enc) (C := Try.checked) false ⟨#[], #[.agg #[.int .i64 0, .slice none 0 0, .slice none 0 0]], []⟩ 8 (by kernel_rfl) (by kernel_rfl) (by kernel_rfl) (by kernel_rfl)) ?_
  intro W base args ds gs before hval0 hW hcnd _
  have hval : ∀ (j : Nat) t v, Try.f9.params[j]? = some t → args[j]? = some v → Value.okWide Try.prog W .any base t v := hval0
  have hW' := hW
  obtain ⟨p, q, hA0, hV, rfl, hfz, hnd⟩ := hW
  have hA : DataW.TrodAll enc Try.prog W 0 (fun _ => true) true Try.f9.params.toList args.toList ds p := hA0
  rw [Try.params9] at hA hval
  obtain ⟨v0, vs0, d0, ds0, p0, q0, hargs, rfl, rfl, h0, r0'⟩ := trodAll_cons hA
  obtain ⟨rfl, rfl, rfl⟩ := trodAll_nil r0'
  obtain rfl : args = #[v0] := by cases args; simp_all
  obtain ⟨rfl, rfl⟩ := trodVars_none hV
  have k0 := h0
  have lt0 : ∀ x ∈ p0, x.block < W.heap.size := by obtain ⟨m, hm⟩ := k0; exact DataW.trod_lt m _ _ _ hm
  obtain ⟨r0, aN0, nN0, cN0, aT0, nT0, cT0, rfl, w0, f0⟩ := open_rec (hval 0 25 v0 rfl rfl) h0
  clear hA0 hval0
  refine (walk r0 aN0 nN0 cN0 aT0 nT0 cT0 W w0 f0).mono fun e W' ⟨he, bel⟩ => ?_
  subst he
  exact ⟨_, rfl, _, _, _, [], _, [], hW', trodAll_mk1 (shut_bool Try.underlying4 _), (trodAll_cons_mk (Below.trod laidOut (by kernel_rfl) (of_decide_eq_true (by kernel_rfl)) k0 bel lt0) trodAll_mk0), rfl, bel.frame _, fun h => by cases h⟩

theorem over : Rows.codeSizesRow.holds Try.pinned (OpenSpec.ofChange Rows.codeSizesSpec) :=
  OpenClaim.holds_of_wide 9 Try.f9 rfl rfl rfl rfl rfl rfl rfl ⟨rfl, rfl, rfl, rfl, rfl⟩ rfl rfl rfl rfl rfl (by kernel_rfl) Try.func9 (by kernel_rfl)
    (of_decide_eq_true (by kernel_rfl)) (by unfold Func.isWrapper; first | (rw [if_pos (by decide +kernel)]; kernel_rfl) | (rw [if_neg (by decide +kernel)]; exact ⟨rfl, rfl⟩))
    (fun os started H enc _ => lifted os started H enc)

/-- the statement -/
theorem proved : Rows.CodeSizesSaid := over
#print axioms proved
end Go.Proofs.Ytdakfhoadfbfiaa.codeSizes
