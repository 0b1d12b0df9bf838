/-
  A quoted text has only signs that can be shown, is the same each time, and is longer by two where the text is no plain word. CONDITIONS: the listed variables of Go's library read as its text lays them (tied to it).
-/
import Derived.Test.YtaldkdiijflmdaaDoorLain
import Derived.Test.YtaldkdiijflmdaaDoorTie
import Derived.Test.YtaldkdiijflmdaaDoorCards
import Derived.ProofKit
import Derived.OpenShut
import Derived.ShutString
import Derived.Lay
import Derived.SevenTiedAt
import Derived.SizedLaws
namespace Go.Proofs.YtaldkdiijflmdaaDoor.tokenQuotes
open Go.ChangeShapes Go.WideShapes Go.ChangeAt Go.RowKit
open Go.ChangeMaps (open_string shut_string)
set_option linter.unusedVariables false
set_option linter.unusedSimpArgs false
set_option maxRecDepth 20000

theorem shown_tests {r : Nat} (h : M.shownB r = true) : ¬ ((r : Int) < 32) ∧ ((r : Int) == 127) = false ∧ ((r : Int) == 65533) = false := by
  simp only [M.shownB, decide_eq_true_eq] at h
  exact ⟨by omega, int_neq (k := 127) h.2.1, int_neq (k := 65533) h.2.2⟩

theorem walk (a0 : ByteArray) (w0 : a0.size ≤ 140737488351232) (w : World) (hL : Lain w) :
    Calls Tryd.prog 9 #[.string a0] w fun e w' => e = .returned (.bool true) ∧ Below w.heap.size w w' := by
  have HA := Lib.hid (awake_any w hL)
  have HL := Lib.hid hL
  clear hL
  by_cases hbig : 2048 < a0.size
  · have hI : (2048 : Int) < (a0.size : Int) := by omega
    clear hbig
    go_enter Tryd.func9, Tryd.ntmps9
    go_wp2_with (go_at_call 11; refine HA.out.mono ?_; rintro e w1 ⟨rfl, hb⟩; have HB1 := Lib.hid hb; clear hb)
    go_ret
    exact ⟨rfl, HB1.out⟩
  · have hI : ¬ ((2048 : Int) < (a0.size : Int)) := by omega
    have hI2 : (a0.size : Int) ≤ 2048 := by omega
    have HS : Hid (a0.size ≤ 20000) := by show a0.size ≤ 20000; omega
    clear hbig w0
    obtain ⟨Q, hQ⟩ : ∃ Q, str (M.quote a0.data.toList) = Q := ⟨_, rfl⟩
    have HQ := Lib.hid (fun (w1 : World) (hb : Below w.heap.size w w1) => quote_lit a0 Q w1 (HL.out.below hb (Nat.le_refl _)).tabs HS.out hQ)
    have hQl : Q.data.toList = M.quote a0.data.toList := by rw [← hQ]; simp [str]
    have hlen := M.quote_len a0.data.toList
    have HSh : Hid (∀ r ∈ M.runes Q.data.toList, M.shownB r = true) := by
      rw [hQl, M.runes_quote0]
      exact Lib.hid (M.quoter_shown _)
    have HP := Lib.hid (fun w1 => plain_lit a0 w1 _ rfl)
    have HBig : Hid (M.plainW a0.data.toList = false → a0.size + 2 ≤ Q.size) := by
      intro hp
      have := (M.quote_big a0.data.toList hp).1
      rw [← hQl, ← Lib.size_eq, ← Lib.size_eq] at this
      exact this
    rw [← hQl, ← Lib.size_eq, ← Lib.size_eq] at hlen
    have hz : (Q.size : Int) ≤ 400000 := by omega
    obtain ⟨g1, g2, g3⟩ := empty_no (s := Q) (by intro e; rw [Lib.size_eq, e] at hlen; simp at hlen)
    have heq : (Q.toList == Q.toList) = true := by simp
    clear hlen hQ hQl
    go_enter Tryd.func9, Tryd.ntmps9
    go_wp2_with fail
    refine HA.out.mono ?_
    rintro e w1 ⟨rfl, hb⟩
    have HB1 := Lib.hid hb
    clear hb
    go_wp2_with fail
    refine (HQ.out _ HB1.out).mono ?_
    rintro e w2 ⟨rfl, hb⟩
    have HB2 : Hid (Below w.heap.size w w2) := HB1.out.trans (hb.mono HB1.out.size)
    clear hb
    go_wp2_with fail
    go_loopw [] (fun wr => ∃ pos : Nat, pos ≤ Q.size ∧ wr.heap[w2.heap.size]? = some (Obj.stringIter Q pos) ∧ Below w2.heap.size w2 wr ∧ ∀ r ∈ M.runes (Q.data.toList.drop pos), M.shownB r = true) (fun wr => Q.size - wr.iterPos w2.heap.size)
    case atStart =>
      refine ⟨0, by omega, ?_, (Below.refl _ w2).alloc (Nat.le_refl _) _, by rw [List.drop_zero]; exact HSh.out⟩
      exact World.iter_heap w2 Q 0
    case round =>
      obtain ⟨pos, hle, hit, hb, hsh⟩ := hrel
      have Hle := Lib.hid hle
      have Hb := Lib.hid hb
      have Hsh := Lib.hid hsh
      have Hit := Lib.hid hit
      clear hle hb hsh
      by_cases hp : pos < Q.size
      · have hra := runes_at Q pos hp
        have hnx : ∀ ty, (Instr.next (.pointer (some ⟨w2.heap.size, 0, none⟩)) true ty).run Tryd.prog wr = _ := fun ty => Lib.run_next_any_at wr w2.heap.size Q pos ty hit hp
        have hI3 := Lib.iterAt_heap wr w2.heap.size Q pos (pos + (Utf8.decode Q pos).2) hit
        have HPp := Lib.hid hp
        clear hp hit
        generalize (Utf8.decode Q pos).1 = r at *
        generalize (Utf8.decode Q pos).2 = n at *
        have HRA := Lib.hid hra
        clear hra
        have HBn := Lib.hid (Lib.below_iterAt Hb.out (k := w2.heap.size) (Nat.le_refl _) Q (pos + n))
        have HI := Lib.hid hI3
        clear hI3
        obtain ⟨t1, t2, t3⟩ := shown_tests (Hsh.out r (by rw [HRA.out.1]; exact List.mem_cons_self))
        have HSn : Hid (∀ r ∈ M.runes (Q.data.toList.drop (pos + n)), M.shownB r = true) := fun x hx => Hsh.out x (by rw [HRA.out.1]; exact List.mem_cons_of_mem _ hx)
        go_wp2_with fail
        go_roundw
        case rel => exact ⟨pos + n, HRA.out.2.2.2.2, HI.out, HBn.out, HSn.out⟩
        case measure =>
          simp only [World.iterPos, HI.out, Hit.out]
          have := HRA.out.2.2.2.1
          have := HPp.out
          omega
      · obtain rfl : pos = Q.size := by have := Hle.out; omega
        have hnx : ∀ ty, (Instr.next (.pointer (some ⟨w2.heap.size, 0, none⟩)) true ty).run Tryd.prog wr = _ := fun ty => Lib.run_next_end_at wr w2.heap.size Q Q.size ty hit hp
        have HB3 : Hid (Below w.heap.size w wr) := HB2.out.trans (Hb.out.mono HB2.out.size)
        clear hp hit
        cases hpl : M.plainW a0.data.toList with
        | true =>
          rw [hpl] at HP
          clear hpl
          go_wp2_with fail
          refine (HQ.out _ HB3.out).mono ?_
          rintro e w4 ⟨rfl, hb⟩
          have HB4 : Hid (Below w.heap.size w w4) := HB3.out.trans (hb.mono HB3.out.size)
          clear hb
          go_wp2_with fail
          refine (HP.out _).mono ?_
          rintro e w5 ⟨rfl, hb⟩
          have HB5 : Hid (Below w.heap.size w w5) := HB4.out.trans (hb.mono HB4.out.size)
          clear hb
          go_wp2_with fail
          go_ret
          exact ⟨rfl, HB5.out⟩
        | false =>
          have hbg : (a0.size : Int) + 2 ≤ (Q.size : Int) := by have := HBig.out hpl; omega
          rw [hpl] at HP
          clear hpl
          go_wp2_with fail
          refine (HQ.out _ HB3.out).mono ?_
          rintro e w4 ⟨rfl, hb⟩
          have HB4 : Hid (Below w.heap.size w w4) := HB3.out.trans (hb.mono HB3.out.size)
          clear hb
          go_wp2_with fail
          refine (HP.out _).mono ?_
          rintro e w5 ⟨rfl, hb⟩
          have HB5 : Hid (Below w.heap.size w w5) := HB4.out.trans (hb.mono HB4.out.size)
          clear hb
          go_wp2_with fail
          go_ret
          exact ⟨rfl, HB5.out⟩


theorem own : ownKnob Tryd.prog.godebug = none := by kernel_rfl

set_option maxRecDepth 100000 in
theorem lifted (os : Os) (started : os.Started) (H : Type) (enc : TypeId × Value → H) :
    ReturnsInHanded {} Tryd.checked os 9 .any (fun w args => (Rows.tokenQuotesSpec.pre enc Tryd.prog Tryd.f9 [] false w args ∧ laidMetH Tryd.prog laidL w) ∧ sizedMet enc Tryd.prog Tryd.f9 (OpenSpec.ofChange Rows.tokenQuotesSpec) false w args)
      (Rows.tokenQuotesSpec.post enc Tryd.prog Tryd.f9 false true false false) := by
  refine returnsInHanded_of_change_and (C := Tryd.checked) (X := fun w _ => laidMetH Tryd.prog laidL w) (fun _ _ _ hh h => h.of_heap hh) own started (by kernel_rfl) Tryd.func9
    (ChangeSpec.witness_shaped (enc := enc) (C := Tryd.checked) (os := os) (X := fun w _ => laidMetH Tryd.prog laidL w) false (World.laidAll Tryd.prog os laidL) #[.string ByteArray.empty] 8 (World.laidAll_os _ _ _)
      (World.shaped_of_ZipB (by kernel_rfl) (by kernel_rfl)) (by kernel_rfl) (by kernel_rfl) (by kernel_rfl)
      (by rw [MakeChecks.laidMetH_plain _ _ _ (by kernel_rfl)]; exact laidMet_laidAll _ (by kernel_rfl) (by kernel_rfl))) ?_
  intro W base args ds gs before hval0 hW _ hsz hL _
  have hval : ∀ (j : Nat) t v, Tryd.f9.params[j]? = some t → args[j]? = some v → Value.okWide Tryd.prog W .any base t v := hval0
  have hW' := hW
  obtain ⟨p, q, hA0, hV, rfl, _, _⟩ := hW
  have hA : DataW.TrodAll enc Tryd.prog W 0 (fun _ => true) true Tryd.f9.params.toList args.toList ds p := hA0
  rw [Tryd.params9] at hA hval
  obtain ⟨v0, vs0, d0, ds0, p0, q0, hargs, rfl, rfl, h0, r0⟩ := trodAll_cons hA
  obtain ⟨rfl, rfl, rfl⟩ := trodAll_nil r0
  obtain rfl : args = #[v0] := by cases args; simp_all
  obtain ⟨rfl, rfl⟩ := trodVars_none hV
  obtain ⟨a0, rfl, rfl, rfl, w0⟩ := open_string Tryd.underlying9 (hval 0 9 v0 rfl rfl) h0
  have z0 : a0.size ≤ 140737488351232 := by
    have := sized_string hsz (j := 0) (t := 9) (by rw [Tryd.params9]; rfl) rfl
    rw [Lib.size_eq]
    exact this
  clear hA0 hval0
  simp only [List.append_nil] at hW'
  refine (walk a0 z0 W (lain_of hL)).mono fun e W' ⟨he, hb⟩ => ?_
  subst he
  exact ⟨_, rfl, _, _, _, [], [], [], hW', (trodAll_cons_mk (shut_bool Tryd.underlying4 _) trodAll_mk0), (trodAll_cons_mk (shut_string Tryd.underlying9 w0) trodAll_mk0), rfl, hb.frame _, fun h => by cases h⟩

theorem over : Rows.TokenQuotesSaid :=
  OpenClaim.holds_of_wide 9 Tryd.f9 rfl rfl rfl rfl rfl rfl rfl ⟨rfl, rfl, rfl, rfl, rfl⟩ rfl rfl rfl rfl rfl (by kernel_rfl) Tryd.func9 (by kernel_rfl)
    (of_decide_eq_true (by kernel_rfl)) (by unfold Func.isWrapper; first | (rw [if_pos (by decide +kernel)]; kernel_rfl) | (rw [if_neg (by decide +kernel)]; exact ⟨rfl, rfl⟩))
    (fun os started H enc _ => lifted os started H enc)

theorem proved : Rows.TokenQuotesCardSaid :=
  Claim7.holds_tied_plain_at .later [] [.data, .data, .data, .data, .sentinel, .sentinel, .pinned] true (true, "04bf3c768bf736b8fd82327442cdcf8f6d68ad994148245a372f4f7fa7294dad") true
    over (fun _ h => by cases h) (by kernel_rfl) (fun _ h => by cases h) tokenQuotes_row_tie rfl ⟨rfl, rfl⟩ (by kernel_rfl) rfl
    (fun f fn hf hfn => by
      obtain rfl : f = 9 := Option.some.inj ((show Tryd.prog.funcNamed "seisin/seisinlaw03.TokenQuotes" = some 9 by kernel_rfl).symm.trans hf) |>.symm
      obtain rfl : fn = Tryd.f9 := (Option.some.inj (Tryd.func9.symm.trans hfn)).symm
      exact ⟨by kernel_rfl, fun j t ht => by
        rw [Tryd.params9] at ht
        have hm : t ∈ [9] := by simpa using Array.mem_of_getElem? ht
        have hall : ([9].all fun u => !Tryd.prog.wantsStandIn u) = true := by kernel_rfl
        exact (show Tryd.prog.wantsStandIn t = false by simpa using List.all_eq_true.1 hall t hm)⟩)
    (by kernel_rfl)
#print axioms proved
end Go.Proofs.YtaldkdiijflmdaaDoor.tokenQuotes
