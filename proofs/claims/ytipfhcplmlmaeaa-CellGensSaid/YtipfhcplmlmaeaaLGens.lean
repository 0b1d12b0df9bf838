/-
  PROVED: Generations rise one by one, and tell which text came last, however often the cell is opened anew. CONDITIONS: none (any texts, any marks).
-/
import Derived.Test.YtipfhcplmlmaeaaOpens
namespace Go.Proofs.Ytipfhcplmlmaeaa.cellGens
open Go.ChangeShapes Go.WideShapes Go.ChangeAt Go.RowKit Go.Joins
open Go.ChangeMaps (open_string shut_string)
set_option linter.unusedVariables false
set_option linter.unusedSimpArgs false
set_option maxRecDepth 20000

theorem pend_none {n : Nat} {P : Int → Option M.Sec} (h : ∀ k, P k = none) : M.pendL n P = [] := by
  unfold M.pendL
  rw [List.filter_eq_nil_iff]
  intro k _
  rw [h k]; simp
theorem get_quiet (W : World) {cB dB a b : Nat} {c : M.Cl} (h : CellAt W cB dB a b c) (q : Nat) :
    Calls Try.prog 14 #[.pointer (some ⟨cB, 0, none⟩)] (W.drewN q) fun e w'' => e = .returned (.string c.text) ∧ ∃ j, w'' = W.drewN j :=
  (get_any (W.drewN q) (h.of_block rfl)).mono fun _ _ ⟨he, hw⟩ => ⟨he, q, hw.symm⟩
theorem gen_quiet (W : World) {cB dB a b : Nat} {c : M.Cl} (h : CellAt W cB dB a b c) (q : Nat) :
    Calls Try.prog 15 #[.pointer (some ⟨cB, 0, none⟩)] (W.drewN q) fun e w'' => e = .returned (.int .i64 c.gen) ∧ ∃ j, w'' = W.drewN j :=
  (gen_any (W.drewN q) (h.of_block rfl)).mono fun _ _ ⟨he, hw⟩ => ⟨he, q, hw.symm⟩

set_option maxHeartbeats 4000000 in
theorem walk (a0 : Option Addr) (n0 c0 : Nat) (l0 : List ByteArray) (a1 : Option Addr) (n1 c1 : Nat) (l1 : List Bool) (w : World) (w0 : Row w a0 n0 c0 (C.strs l0)) (w1 : Row w a1 n1 c1 (l1.map Value.bool)) :
    Calls Try.prog 5 #[.slice a0 n0 c0, .slice a1 n1 c1] w fun e w' => e = .returned (.bool true) ∧ Below w.heap.size w w' := by
  have HA := Lib.hid (awake_any w)
  have HW0 := Lib.hid w0
  have HW1 := Lib.hid w1
  clear w0 w1
  go_enter Try.func5, Try.ntmps5
  go_wp2_with (first
    | (go_at_call 8; refine HA.out.mono ?_; rintro e w1 ⟨rfl, hb1⟩; have HB1 := Lib.hid hb1; clear hb1)
    | (go_at_call 11; refine (new_yes 2 (by omega) _).mono ?_; rintro e w2 ⟨dB, sB, mB, rfl, hd2, hb2, l1, l2, l3⟩
       have HD2 := Lib.hid hd2
       have HB2 := Lib.hid (HB1.out.trans (hb2.mono HB1.out.size))
       have HL : Hid (w.heap.size ≤ dB ∧ w.heap.size ≤ sB ∧ w.heap.size ≤ mB) := Lib.hid ⟨by have := HB1.out.size; omega, by have := HB1.out.size; omega, by have := HB1.out.size; omega⟩
       clear hd2 hb2 l1 l2 l3)
    | (go_at_call 13; refine (open_yes _ HD2.out rfl 1 0 (by omega) (by omega) (by omega)).mono ?_; rintro e w3 ⟨kB, rfl, lk, hk, hb3⟩
       have HK := Lib.hid hk
       have HD3 := Lib.hid (HD2.out.but (But.of_below hb3) (by simp) (by simp) (by simp))
       have HB3 := Lib.hid (HB2.out.trans (hb3.mono HB2.out.size))
       have HLk : Hid (w.heap.size ≤ kB ∧ kB ≠ dB ∧ kB ≠ sB ∧ kB ≠ mB) := Lib.hid ⟨by have := HB2.out.size; omega, by have := HD2.out.ltD; omega, by have := HD2.out.lt; omega, by have := HD2.out.pend.lt; omega⟩
       clear lk hk hb3))
  go_loopw [6, 8] (fun cv i wr => ∃ (k cB : Nat) (d : M.Dv) (c : M.Cl), k ≤ 60 ∧ k ≤ n0 ∧ i = .int .i64 k ∧ cv = .pointer (some ⟨cB, 0, none⟩) ∧ DevAt wr dB sB mB 2 d ∧ Free d ∧ (∀ k, d.P k = none) ∧ CellAt wr cB dB 1 0 c ∧ c = M.found (M.rdS (M.seen d 1)) (M.rdS (M.seen d 0)) ∧ c.gen = (k : Int) ∧ (w.heap.size ≤ cB ∧ cB ≠ dB ∧ cB ≠ sB ∧ cB ≠ mB) ∧ Below w.heap.size w wr) (fun _ i _ => 60 - (intOf i).toNat)
  case atStart => exact ⟨0, kB, M.fresh, _, by omega, by omega, rfl, rfl, HD3.out, Free.fresh, fun _ => rfl, HK.out, rfl, by rw [fresh_seen, fresh_seen, found_zero]; rfl, HLk.out, HB3.out⟩
  case round =>
    obtain ⟨k, cB, d, c, hk60, hkn, rfl, rfl, hd, hf, hp, hc, hcf, hcg, hcs, hb⟩ := hrel
    obtain ⟨co, cg, ct⟩ := c
    simp only at hcg
    subst hcg
    have HDv := Lib.hid hd
    have HFr := Lib.hid hf
    have HP := Lib.hid hp
    have HC := Lib.hid hc
    have HCf := Lib.hid hcf
    have HCs := Lib.hid hcs
    have HB := Lib.hid hb
    clear hd hf hp hc hcf hcs hb HK HD3 HB3 HLk HD2 HB2
    have hk0 : (0 : Int) ≤ (k : Int) := by omega
    by_cases hend : k = n0 ∨ k = 60
    · have HPe := Lib.hid (pending_any _ HDv.out)
      rw [pend_none HP.out] at HPe
      have hge : ¬ ((k : Int) < (n0 : Int)) ∨ ¬ ((k : Int) < 60) := by omega
      rcases hge with hge | hge
      · clear hend
        go_wp2_with (go_at_call 21; refine HPe.out.mono ?_; rintro e w5 ⟨v, rfl, hrow, hb5⟩
                     obtain ⟨aP, cP, rfl, _, _⟩ := own_row hrow (by simp [ints])
                     have HB5 := Lib.hid (HB.out.trans (hb5.mono HB.out.size))
                     clear hrow hb5)
        go_ret
        exact ⟨rfl, HB5.out⟩
      · clear hend
        by_cases hlt : (k : Int) < (n0 : Int)
        · go_wp2_with (go_at_call 21; refine HPe.out.mono ?_; rintro e w5 ⟨v, rfl, hrow, hb5⟩
                       obtain ⟨aP, cP, rfl, _, _⟩ := own_row hrow (by simp [ints])
                       have HB5 := Lib.hid (HB.out.trans (hb5.mono HB.out.size))
                       clear hrow hb5)
          go_ret
          exact ⟨rfl, HB5.out⟩
        · go_wp2_with (go_at_call 21; refine HPe.out.mono ?_; rintro e w5 ⟨v, rfl, hrow, hb5⟩
                       obtain ⟨aP, cP, rfl, _, _⟩ := own_row hrow (by simp [ints])
                       have HB5 := Lib.hid (HB.out.trans (hb5.mono HB.out.size))
                       clear hrow hb5)
          go_ret
          exact ⟨rfl, HB5.out⟩
    · have hlt : (k : Int) < (n0 : Int) := by omega
      have hlt6 : (k : Int) < 60 := by omega
      obtain ⟨b, off, t, rfl, ht, hcell, hbl⟩ := strs_at HW0.out HB.out (show k < n0 by omega)
      have Hbl := Lib.hid hbl
      clear hend ht hbl
      by_cases hbig : 100 < t.size
      · have hbigI : (100 : Int) < (t.size : Int) := by omega
        clear hbig
        go_wp2_with fail
        go_ret
        exact ⟨rfl, HB.out⟩
      · have hbigI : ¬ ((100 : Int) < (t.size : Int)) := by omega
        have Hsz : Hid (t.size ≤ 100) := Lib.hid (by omega)
        clear hbig
        have hwr : IntKind.i64.wrap ((k : Int) + 1) = (k : Int) + 1 := by simp [IntKind.wrap, IntKind.bits, IntKind.signed]; omega
        have HPt := Lib.hid (put_ok wr.drew HDv.out.drew HFr.out cB 1 0 ⟨co, (k : Int), ct⟩ (HC.out.of_block rfl) HCs.out.2 HCf.out (by simp only; omega) (by omega) (by omega) (by omega) t Hsz.out)
        go_wp2_with fail
        go_region_held3 (fun w' => w'.cell? ⟨b, off + k, none⟩ = some (.string t))
          (first | exact hcell | exact hcell2)
          (first
            | (go_at_call 18; with_reducible refine HPt.out.mono ?_; rintro e w4 ⟨rfl, d4, hd4, hf4, hp4, _, hc4, hcf4, hb4⟩
               have HD4 := Lib.hid hd4
               have HF4 := Lib.hid hf4
               have HP4 := Lib.hid hp4
               have HC4 := Lib.hid hc4
               have HCf4 := Lib.hid hcf4
               have hcell2 : w4.cell? ⟨b, off + k, none⟩ = some (.string t) := by
                 rw [hb4.cell (Nat.lt_of_lt_of_le Hbl.out HB.out.size) (by have := HL.out; have := HCs.out; have := Hbl.out; simp; omega)]; exact hcell
               have HB4 : Hid (Below w.heap.size w w4) := Lib.hid (HB.out.trans (((Below.refl _ wr).drew).trans (hb4.to_below (by have := HL.out; have := HCs.out; simp; omega) HB.out.size)))
               have HG4 := Lib.hid (get_any w4 hc4)
               have HN4 := Lib.hid (gen_any w4 hc4)
               clear hd4 hf4 hp4 hc4 hcf4 hb4)
            | (go_at_call 14; with_reducible refine HG4.out.mono ?_; rintro e w' ⟨rfl, rfl⟩)
            | (go_at_call 15; with_reducible refine HN4.out.mono ?_; rintro e w' ⟨rfl, rfl⟩))
        have HDr := Lib.hid HD4.out
        by_cases hn1 : k < n1
        · obtain ⟨b', off', x, rfl, hxc⟩ := bits_at HW1.out HB4.out hn1
          have hn1I : (k : Int) < (n1 : Int) := by omega
          clear hn1
          cases x with
          | true =>
            have HOp := Lib.hid (open_yes w4 HD4.out HF4.out.2 1 0 (by omega) (by omega) (by omega))
            go_wp2_with fail
            refine HOp.out.mono ?_
            rintro e w5 ⟨kB, rfl, lk, hk, hb5⟩
            rw [← HCf4.out] at hk
            have HK5 := Lib.hid hk
            have HD5 := Lib.hid (HD4.out.but (But.of_below hb5) (by simp) (by simp) (by simp))
            have HB5 := Lib.hid (HB4.out.trans (hb5.mono HB4.out.size))
            have HLk : Hid (w.heap.size ≤ kB ∧ kB ≠ dB ∧ kB ≠ sB ∧ kB ≠ mB) := Lib.hid ⟨by have := HB4.out.size; omega, by have := HD4.out.ltD; omega, by have := HD4.out.lt; omega, by have := HD4.out.pend.lt; omega⟩
            have hcell5 : w5.cell? ⟨b, off + k, none⟩ = some (.string t) := by
              rw [hb5.cell (p := ⟨b, off + k, none⟩) (Nat.lt_of_lt_of_le Hbl.out HB4.out.size)]; exact hcell2
            have HG5 := Lib.hid (fun q => get_quiet w5 hk q)
            have HN5 := Lib.hid (fun q => gen_quiet w5 hk q)
            clear lk hk hb5 hcell2 hcell
            go_wp2_with fail
            go_quiet ((first
              | (go_at_call 14; with_reducible exact HG5.out _)
              | (go_at_call 15; with_reducible exact HN5.out _)))
            go_wp2_with fail
            go_roundw
            case rel => exact ⟨k + 1, kB, d4, _, by omega, by omega, by go_num, rfl, HD5.out.drewN _, HF4.out, HP4.out, HK5.out.of_block rfl, HCf4.out, by simp only; omega, HLk.out, HB5.out.trans (below_drewN _ _ _)⟩
            case measure => simp [intOf]; omega
          | false =>
            go_wp2_with fail
            go_roundw
            case rel => exact ⟨k + 1, cB, d4, _, by omega, by omega, by go_num, rfl, HD4.out, HF4.out, HP4.out, HC4.out, HCf4.out, by simp only; omega, HCs.out, HB4.out⟩
            case measure => simp [intOf]; omega
        · have hn1I : ¬ ((k : Int) < (n1 : Int)) := by omega
          clear hn1
          go_wp2_with fail
          go_roundw
          case rel => exact ⟨k + 1, cB, d4, _, by omega, by omega, by go_num, rfl, HD4.out, HF4.out, HP4.out, HC4.out, HCf4.out, by simp only; omega, HCs.out, HB4.out⟩
          case measure => simp [intOf]; omega

set_option maxRecDepth 100000 in
theorem lifted (os : Os) (started : os.Started) (H : Type) (enc : TypeId × Value → H) :
    ReturnsInHanded {} Try.checked os 5 .any (Rows.cellGensSpec.pre6 enc Try.prog Try.f5 Rows.cellGensRow.domain false) (Rows.cellGensSpec.post enc Try.prog Try.f5 false true false false) := by
  refine returnsInHanded_of_change (C := Try.checked) own started (by kernel_rfl) Try.func5
    (ChangeSpec.witness6 (enc := enc) (C := Try.checked) false ⟨#[], #[.slice none 0 0, .slice none 0 0], []⟩ 8 (by kernel_rfl) (by kernel_rfl) (by kernel_rfl) (by kernel_rfl)) ?_
  intro W base args ds gs before hval0 hW hcnd _
  have hval : ∀ (j : Nat) t v, Try.f5.params[j]? = some t → args[j]? = some v → Value.okWide Try.prog W .any base t v := hval0
  have hW' := hW
  obtain ⟨p, q, hA0, hV, rfl, hfz, hnd⟩ := hW
  have hA : DataW.TrodAll enc Try.prog W 0 (fun _ => true) true Try.f5.params.toList args.toList ds p := hA0
  rw [Try.params5] at hA hval
  obtain ⟨v0, vs0, d0, ds0, p0, q0, hargs, rfl, rfl, h0, r0'⟩ := trodAll_cons hA
  obtain ⟨v1, vs1, d1, ds1, p1, q1, rfl, rfl, rfl, h1, r1'⟩ := trodAll_cons r0'
  obtain ⟨rfl, rfl, rfl⟩ := trodAll_nil r1'
  obtain rfl : args = #[v0, v1] := by cases args; simp_all
  obtain ⟨rfl, rfl⟩ := trodVars_none hV
  have k0 := h0
  have lt0 : ∀ x ∈ p0, x.block < W.heap.size := by obtain ⟨m, hm⟩ := k0; exact DataW.trod_lt m _ _ _ hm
  obtain ⟨a0, n0, c0, l0, rfl, w0⟩ := open_strs h0 (okWide_slice Try.underlying35 (hval 0 35 v0 rfl rfl))
  have k1 := h1
  have lt1 : ∀ x ∈ p1, x.block < W.heap.size := by obtain ⟨m, hm⟩ := k1; exact DataW.trod_lt m _ _ _ hm
  obtain ⟨a1, n1, c1, l1, rfl, w1⟩ := open_bits h1 (okWide_slice Try.underlying43 (hval 1 43 v1 rfl rfl))
  clear hA0 hval0
  refine (walk a0 n0 c0 l0 a1 n1 c1 l1 W w0 w1).mono fun e W' ⟨he, bel⟩ => ?_
  subst he
  exact ⟨_, rfl, _, _, _, [], _, [], hW', trodAll_mk1 (shut_bool Try.underlying4 _), (trodAll_cons_mk (Below.trod laidOut (by kernel_rfl) (of_decide_eq_true (by kernel_rfl)) k0 bel lt0) (trodAll_cons_mk (Below.trod laidOut (by kernel_rfl) (of_decide_eq_true (by kernel_rfl)) k1 bel lt1) trodAll_mk0)), rfl, bel.frame _, fun h => by cases h⟩

theorem over : Rows.cellGensRow.holds Try.pinned (OpenSpec.ofChange Rows.cellGensSpec) :=
  OpenClaim.holds_of_wide 5 Try.f5 rfl rfl rfl rfl rfl rfl rfl ⟨rfl, rfl, rfl, rfl, rfl⟩ rfl rfl rfl rfl rfl (by kernel_rfl) Try.func5 (by kernel_rfl)
    (of_decide_eq_true (by kernel_rfl)) (by unfold Func.isWrapper; first | (rw [if_pos (by decide +kernel)]; kernel_rfl) | (rw [if_neg (by decide +kernel)]; exact ⟨rfl, rfl⟩))
    (fun os started H enc _ => lifted os started H enc)

/-- the statement -/
theorem proved : Rows.CellGensSaid := over
#print axioms proved
end Go.Proofs.Ytipfhcplmlmaeaa.cellGens
