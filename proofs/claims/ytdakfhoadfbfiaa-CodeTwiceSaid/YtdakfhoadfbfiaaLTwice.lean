/-
  PROVED: a record's bytes twice are no record; once they are that record, and it stays when the list that they were read from is written over. CONDITIONS: none (any record).
-/
import Derived.Test.YtdakfhoadfbfiaaBox
import Derived.Test.YtdakfhoadfbfiaaOpen
namespace Go.Proofs.Ytdakfhoadfbfiaa.codeTwice
open Go.ChangeShapes Go.WideShapes Go.ChangeAt Go.RowKit Go.Joins
set_option linter.unusedVariables false
set_option linter.unusedSimpArgs false
set_option maxRecDepth 20000

theorem own_none (W : World) (N : Nat) (hN : W.heap.size = N) : Own 5 (W.alloc (.cells #[] 5)) N (some ⟨N, 0, none⟩) 0 0 (u8s []) := by
  subst hN
  exact own_lit 5 W W.heap.size [] (Nat.le_refl _) (by simp)
theorem stp_set (R o : Nat) (w : World) (v : Value) : Stp R w (w.setCell ⟨R, o, none⟩ v) :=
  ⟨rfl, rfl, rfl, by simp [World.setCell], fun k hk => Below.heap_setCell _ _ _ _ hk⟩
/-- a row of the call's own, each byte of it a byte -/
def Bytes (w : World) (g n cap : Nat) : Prop := ∃ (B : Nat) (vs : List Value), Own 5 w B (some ⟨g, 0, none⟩) n cap vs ∧ ∀ x ∈ vs, ∃ z : Int, x = .int .u8 z
theorem bytes_cell {w : World} {g n cap : Nat} (h : Bytes w g n cap) (i : Nat) (hi : i < n) : ∃ z : Int, w.cell? ⟨g, i, none⟩ = some (.int .u8 z) ∧ w.frozen? ⟨g, i, none⟩ = false := by
  obtain ⟨B, vs, ⟨h1, h2, h3⟩, h4⟩ := h
  have hlt : i < vs.length := by omega
  obtain ⟨z, hz⟩ := h4 vs[i] (List.getElem_mem hlt)
  refine ⟨z, ?_, World.ownsRow.frozenAt h1 i⟩
  rw [World.ownsRow.cellAt h1 i (by omega), List.getElem?_eq_getElem hlt, hz]
theorem bytes_set {w : World} {g n cap : Nat} (h : Bytes w g n cap) (i : Nat) (z : Int) : Bytes (w.setCell ⟨g, i, none⟩ (.int .u8 z)) g n cap := by
  obtain ⟨B, vs, ⟨h1, h2, h3⟩, h4⟩ := h
  refine ⟨B, vs.set i (.int .u8 z), ⟨(h1.stored i (.int .u8 z)).1, by rw [List.length_set]; exact h2, h3⟩, fun x hx => ?_⟩
  rcases List.mem_or_eq_of_mem_set hx with hx | rfl
  · exact h4 x hx
  · exact ⟨z, rfl⟩
theorem bytes_of {w : World} {B : Nat} {g n cap : Nat} {l : List UInt8} (h : Own 5 w B (some ⟨g, 0, none⟩) n cap (u8s l)) : Bytes w g n cap :=
  ⟨B, u8s l, h, fun x hx => by obtain ⟨c, _, rfl⟩ := List.mem_map.1 hx; exact ⟨_, rfl⟩⟩

set_option maxHeartbeats 1000000 in
theorem walk (r0 : M.Rc) (aN0 : Option Addr) (nN0 cN0 : Nat) (aT0 : Option Addr) (nT0 cT0 : Nat) (w : World) (w0 : RecAt w r0 aN0 nN0 cN0 aT0 nT0 cT0) (f0 : M.Fits r0) :
    Calls Try.prog 11 #[.agg #[.int .i64 r0.kind, .slice aN0 nN0 cN0, .slice aT0 nT0 cT0]] w fun e w' => e = .returned (.bool true) ∧ Below w.heap.size w w' := by
  have H := Lib.hid w0
  have F := Lib.hid f0
  clear w0 f0
  by_cases hl : nN0 ≤ 1000 ∧ nT0 ≤ 1000
  · obtain ⟨hl1, hl2⟩ := hl
    by_cases hm : M.May r0
    · have Hm := Lib.hid hm
      have hle := M.enc_le hm
      have Hmore := Lib.hid (M.dec_more hm F.out (M.enc r0) (by intro e; rw [e] at hle; simp at hle))
      have Hsame := Lib.hid (M.dec_enc hm F.out)
      clear hm
      have HE := fun w1 h1 => encode_yes w1 r0 aN0 nN0 cN0 aT0 nT0 cT0 h1 Hm.out F.out
      generalize hL : (M.enc r0).length = n at *
      have HL := Lib.hid hL
      have HEh := Lib.hid HE
      clear HE hL
      have Hle := Lib.hid hle
      have hn1 : (n : Int) ≤ 1000 := by omega
      clear hle
      go_enter Try.func11, Try.ntmps11
      go_wp2_with (first
        | (go_at_call 12; refine (awake_any _).mono ?_; rintro e w1 ⟨rfl, hb⟩; have B1 := Lib.hid ((Bx.refl w (.cells #[.int .i64 r0.kind, .slice aN0 nN0 cN0, .slice aT0 nT0 cT0] 25)).next hb (Nat.le_refl _)); obtain ⟨c1, c2, c3⟩ := B1.out.cells; clear hb)
        | (go_at_call 13; refine (large_no _ _ _ _ _ _ _ _ hl1 hl2).mono ?_; rintro e w2 ⟨rfl, hb⟩; have B2 := Lib.hid (B1.out.next hb (Nat.le_refl _)); obtain ⟨d1, d2, d3⟩ := B2.out.cells; clear hb)
        | (go_at_call 14; refine (HEh.out _ (B2.out.rec H.out)).mono ?_; rintro e w3 ⟨a3, cap3, rfl, ho, hb⟩; have B3 := Lib.hid (B2.out.next hb (Nat.le_refl _)); have O3 := Lib.hid ho
           have Own0 := Lib.hid (own_none w3 w3.heap.size rfl); have hb3 := (Below.refl w3.heap.size w3).alloc (Nat.le_refl _) (.cells #[] 5); have Row0 := Lib.hid (row_below (own_row ho).1 hb3 (Nat.le_refl _)); have Hb3 := Lib.hid hb3; clear hb ho hb3)
        | (at_builtin
           refine wpList_append_u8 _ rfl (.tmp 25) (.tmp 26) rfl w3.heap.size (some ⟨w3.heap.size, 0, none⟩) 0 0 [] rfl Own0.out a3 n cap3 (M.enc r0) rfl Row0.out n (by omega) (by have := Hle.out; omega) (by simp) ?_
           intro a5 cap5 w5 hown hb
           have O5 := Lib.hid hown
           have B5 := Lib.hid (Below.trans Hb3.out hb)
           have R5 := Lib.hid (row_below (own_row O3.out).1 B5.out (Nat.le_refl _))
           clear hown hb)
        | (at_builtin
           refine wpList_append_u8 _ rfl (.tmp 27) (.tmp 28) rfl w3.heap.size a5 n cap5 (M.enc r0) rfl O5.out a3 n cap3 (M.enc r0) rfl R5.out (n + n) rfl (by have := Hle.out; omega) B5.out.size ?_
           intro a6 cap6 w6 hown hb
           have O6 := Lib.hid hown
           have B6 := Lib.hid (B5.out.trans hb)
           clear hown hb))
      clear c1 c2 c3 d1 d2 d3
      refine (decode_no _ _ _ _ _ (own_row O6.out).1 Hmore.out).mono ?_
      rintro e w7 ⟨rfl, hb⟩
      have B7 := Lib.hid (B6.out.trans (hb.mono B6.out.size))
      clear hb
      go_wp2_with fail
      have R8 := Lib.hid (row_below (own_row O3.out).1 (B7.out.alloc B7.out.size (.cells #[.int .i64 0, .slice none 0 0, .slice none 0 0] 25)) (Nat.le_refl _))
      refine (decode_ok _ _ _ _ _ r0 R8.out Hsame.out).mono ?_
      rintro e w8 ⟨aN, nN, cN, aT, nT, cT, rfl, ho8, hb⟩
      have hs7 := B7.out.size
      have B8 := Lib.hid ((B7.out.alloc B7.out.size (.cells #[.int .i64 0, .slice none 0 0, .slice none 0 0] 25)).trans (hb.mono (by simp; omega)))
      have O8 := Lib.hid (own_mono ho8.nums (B' := w3.heap.size + 1) (by simp; omega))
      have T8 := Lib.hid (own_mono ho8.texts (B' := w3.heap.size + 1) (by simp; omega))
      have hN8 := ho8.at.lenN
      have hT8 := ho8.at.lenT
      have N8 := Lib.hid (hN8.trans H.out.lenN.symm)
      have T8' := Lib.hid (hT8.trans H.out.lenT.symm)
      clear ho8 hb hs7 hN8 hT8
      -- where the record's bytes lie
      obtain ⟨g, rfl, hgl, hgs⟩ : ∃ g, a3 = some ⟨g, 0, none⟩ ∧ w.heap.size < g ∧ g < w3.heap.size := by
        obtain ⟨⟨h1, h2, h3, h4⟩, h5⟩ := own_row O3.out
        rcases h4 with h4 | ⟨b, off, hb, hlt, _⟩
        · have := congrArg List.length h4
          rw [u8s_length, HL.out, List.length_nil] at this
          have := Hle.out
          omega
        · obtain ⟨h6, h7⟩ := h5 b off hb
          subst h7
          exact ⟨b, hb, by have := B2.out.size; omega, hlt⟩
      have Hg := Lib.hid (And.intro hgl hgs)
      clear hgl hgs
      go_wp2_with fail
      have BX : Hid (Bx w (.cells #[.int .i64 r0.kind, .slice aN0 nN0 cN0, .slice aT0 nT0 cT0] 25) (w8.alloc (.cells #[.int .i64 r0.kind, .slice aN nN cN, .slice aT nT cT] 25))) := (B3.out.next B8.out (Nat.le_refl _)).alloc _
      have BS := Lib.hid B8.out.size
      have HB0 : Hid (Bytes (w8.alloc (.cells #[.int .i64 r0.kind, .slice aN nN cN, .slice aT nT cT] 25)) g n cap3) := bytes_of (own_below O3.out (B8.out.alloc B8.out.size _) (Nat.le_refl _))
      go_loopw [40] (fun i wr => ∃ k : Nat, k ≤ n ∧ i = .int .i64 k ∧ Stp g (w8.alloc (.cells #[.int .i64 r0.kind, .slice aN nN cN, .slice aT nT cT] 25)) wr ∧ Bytes wr g n cap3) (fun i _ => n - (intOf i).toNat)
      case atStart => exact ⟨0, by omega, rfl, Stp.refl _ _, HB0.out⟩
      case round =>
        obtain ⟨k, hk, rfl, hst, hby⟩ := hrel
        have Hst := Lib.hid hst
        have Hby := Lib.hid hby
        clear hst hby
        by_cases hlt : k < n
        · have hltI : (k : Int) < (n : Int) := by omega
          obtain ⟨z, hz1, hz2⟩ := bytes_cell Hby.out k hlt
          go_wp2_with fail
          go_roundw
          case rel => exact ⟨k + 1, by omega, by go_num, Hst.out.trans (stp_set g k _ _), bytes_set Hby.out k _⟩
          case measure => simp [intOf]; omega
        · obtain rfl : k = n := by omega
          have hge : (k : Int) ≤ (k : Int) := Int.le_refl _
          obtain ⟨g1, g2⟩ := Hg.out
          have hb8 := BS.out
          obtain ⟨c1, c2, c3⟩ := BX.out.cells
          have e1 : wr.cell? ⟨w.heap.size, 0, none⟩ = some (.int .i64 r0.kind) := by rw [Hst.out.cell 0 (by omega)]; exact c1
          have e2 : wr.cell? ⟨w.heap.size, 1, none⟩ = some (.slice aN0 nN0 cN0) := by rw [Hst.out.cell 1 (by omega)]; exact c2
          have e3 : wr.cell? ⟨w.heap.size, 2, none⟩ = some (.slice aT0 nT0 cT0) := by rw [Hst.out.cell 2 (by omega)]; exact c3
          have k1 : wr.cell? ⟨w8.heap.size, 0, none⟩ = some (.int .i64 r0.kind) := by rw [Hst.out.cell 0 (by omega), World.cell?_alloc_mark]; rfl
          have k2 : wr.cell? ⟨w8.heap.size, 1, none⟩ = some (.slice aN nN cN) := by rw [Hst.out.cell 1 (by omega), World.cell?_alloc_mark]; rfl
          have k3 : wr.cell? ⟨w8.heap.size, 2, none⟩ = some (.slice aT nT cT) := by rw [Hst.out.cell 2 (by omega), World.cell?_alloc_mark]; rfl
          have BW : Hid (Below w.heap.size w wr) := BX.out.old.trans (Hst.out.below.mono (by omega))
          have Hr1 := Lib.hid (H.out.below BW.out (Nat.le_refl _))
          have hal := (Below.refl w8.heap.size w8).alloc (Nat.le_refl _) (.cells #[.int .i64 r0.kind, .slice aN nN cN, .slice aT nT cT] 25)
          have Hr2 : Hid (RecAt wr r0 aN nN cN aT nT cT) := ⟨(own_row (own_stp (own_below O8.out hal (Nat.le_refl _)) Hst.out (by omega))).1, (own_row (own_stp (own_below T8.out hal (Nat.le_refl _)) Hst.out (by omega))).1⟩
          clear c1 c2 c3 g1 g2 hb8 hal
          go_wp2_with (go_at_call 21; refine (same_yes _ r0 aN0 nN0 cN0 aT0 nT0 cT0 aN nN cN aT nT cT Hr1.out Hr2.out (by omega) (by omega)).mono ?_; rintro e w9 ⟨rfl, hb⟩; have B9 := Lib.hid (BW.out.trans (hb.mono BW.out.size)); clear hb)
          go_ret
          exact ⟨rfl, B9.out⟩
    · have Hm := Lib.hid hm
      clear hm
      go_enter Try.func11, Try.ntmps11
      go_wp2_with (first
        | (go_at_call 12; refine (awake_any _).mono ?_; rintro e w1 ⟨rfl, hb⟩; have B1 := Lib.hid ((Bx.refl w (.cells #[.int .i64 r0.kind, .slice aN0 nN0 cN0, .slice aT0 nT0 cT0] 25)).next hb (Nat.le_refl _)); obtain ⟨c1, c2, c3⟩ := B1.out.cells; clear hb)
        | (go_at_call 13; refine (large_no _ _ _ _ _ _ _ _ hl1 hl2).mono ?_; rintro e w2 ⟨rfl, hb⟩; have B2 := Lib.hid (B1.out.next hb (Nat.le_refl _)); obtain ⟨d1, d2, d3⟩ := B2.out.cells; clear hb)
        | (go_at_call 14; refine (encode_no _ r0 _ _ _ _ _ _ (B2.out.rec H.out) Hm.out).mono ?_; rintro e w3 ⟨rfl, hb⟩; have B3 := Lib.hid (B2.out.next hb (Nat.le_refl _)); clear hb))
      go_ret
      exact ⟨rfl, B3.out.old⟩
  · go_enter Try.func11, Try.ntmps11
    go_wp2_with (first
        | (go_at_call 12; refine (awake_any _).mono ?_; rintro e w1 ⟨rfl, hb⟩; have B1 := Lib.hid ((Bx.refl w (.cells #[.int .i64 r0.kind, .slice aN0 nN0 cN0, .slice aT0 nT0 cT0] 25)).next hb (Nat.le_refl _)); obtain ⟨c1, c2, c3⟩ := B1.out.cells; clear hb)
        | (go_at_call 13; refine (large_yes _ _ _ _ _ _ _ _ hl).mono ?_; rintro e w2 ⟨rfl, hb⟩; have B2 := Lib.hid (B1.out.next hb (Nat.le_refl _)); clear hb))
    go_ret
    exact ⟨rfl, B2.out.old⟩

set_option maxRecDepth 100000 in
theorem lifted (os : Os) (started : os.Started) (H : Type) (enc : TypeId × Value → H) :
    ReturnsInHanded {} Try.checked os 11 .any (Rows.codeTwiceSpec.pre6 enc Try.prog Try.f11 Rows.codeTwiceRow.domain false) (Rows.codeTwiceSpec.post enc Try.prog Try.f11 false true false false) := by
  refine returnsInHanded_of_change (C := Try.checked) own started (by kernel_rfl) Try.func11
    (ChangeSpec.witness6 (enc := enc) (C := Try.checked) false ⟨#[], #[.agg #[.int .i64 0, .slice none 0 0, .slice none 0 0]], []⟩ 8 (by kernel_rfl) (by kernel_rfl) (by kernel_rfl) (by kernel_rfl)) ?_
  intro W base args ds gs before hval0 hW hcnd _
  have hval : ∀ (j : Nat) t v, Try.f11.params[j]? = some t → args[j]? = some v → Value.okWide Try.prog W .any base t v := hval0
  have hW' := hW
  obtain ⟨p, q, hA0, hV, rfl, hfz, hnd⟩ := hW
  have hA : DataW.TrodAll enc Try.prog W 0 (fun _ => true) true Try.f11.params.toList args.toList ds p := hA0
  rw [Try.params11] at hA hval
  obtain ⟨v0, vs0, d0, ds0, p0, q0, hargs, rfl, rfl, h0, r0'⟩ := trodAll_cons hA
  obtain ⟨rfl, rfl, rfl⟩ := trodAll_nil r0'
  obtain rfl : args = #[v0] := by cases args; simp_all
  obtain ⟨rfl, rfl⟩ := trodVars_none hV
  have k0 := h0
  have lt0 : ∀ x ∈ p0, x.block < W.heap.size := by obtain ⟨m, hm⟩ := k0; exact DataW.trod_lt m _ _ _ hm
  obtain ⟨r0, aN0, nN0, cN0, aT0, nT0, cT0, rfl, w0, f0⟩ := open_rec (hval 0 25 v0 rfl rfl) h0
  clear hA0 hval0
  refine (walk r0 aN0 nN0 cN0 aT0 nT0 cT0 W w0 f0).mono fun e W' ⟨he, bel⟩ => ?_
  subst he
  exact ⟨_, rfl, _, _, _, [], _, [], hW', trodAll_mk1 (shut_bool Try.underlying4 _), (trodAll_cons_mk (Below.trod laidOut (by kernel_rfl) (of_decide_eq_true (by kernel_rfl)) k0 bel lt0) trodAll_mk0), rfl, bel.frame _, fun h => by cases h⟩

theorem over : Rows.codeTwiceRow.holds Try.pinned (OpenSpec.ofChange Rows.codeTwiceSpec) :=
  OpenClaim.holds_of_wide 11 Try.f11 rfl rfl rfl rfl rfl rfl rfl ⟨rfl, rfl, rfl, rfl, rfl⟩ rfl rfl rfl rfl rfl (by kernel_rfl) Try.func11 (by kernel_rfl)
    (of_decide_eq_true (by kernel_rfl)) (by unfold Func.isWrapper; first | (rw [if_pos (by decide +kernel)]; kernel_rfl) | (rw [if_neg (by decide +kernel)]; exact ⟨rfl, rfl⟩))
    (fun os started H enc _ => lifted os started H enc)

/-- the statement -/
theorem proved : Rows.CodeTwiceSaid := over
#print axioms proved
end Go.Proofs.Ytdakfhoadfbfiaa.codeTwice
