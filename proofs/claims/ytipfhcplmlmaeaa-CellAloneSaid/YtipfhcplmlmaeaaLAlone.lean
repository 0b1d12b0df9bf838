/-
  PROVED: A cell writes to its two sectors alone, one at a time: all others stay, and behind each put just one of the two is another one. CONDITIONS: none (any texts, any two of ten sectors).
-/
import Derived.Test.YtipfhcplmlmaeaaOpens
import Derived.Deep.RegionHeld
namespace Go.Proofs.Ytipfhcplmlmaeaa.cellAlone
open Go.ChangeShapes Go.WideShapes Go.ChangeAt Go.RowKit Go.Joins
open Go.ChangeMaps (open_string shut_string)
set_option linter.unusedVariables false
set_option linter.unusedSimpArgs false
set_option maxRecDepth 20000

theorem str_ne {a b : ByteArray} (h : a ≠ b) : (a.toList == b.toList) = false := by
  rw [Bool.eq_false_iff]
  intro he
  have := eq_of_beq he
  rw [ByteArray.toList_eq, ByteArray.toList_eq] at this
  exact h (ByteArray.ext (Array.ext' this))
theorem str_inj {l m : List UInt8} (h : str l = str m) : l = m := by
  have := congrArg (fun b : ByteArray => b.data.toList) h
  simpa [str] using this

/-- the first bytes of a sector -/
def first (s : Nat) : List UInt8 := [UInt8.ofNat (s + 1), 9, 9]
theorem first_rdS (s : Nat) : M.rdS (M.pad (first s)) = none := M.rdS_five (by rfl)
theorem first_take (s : Nat) : (M.pad (first s)).take 3 = first s := by rfl
theorem first_len (s : Nat) : (first s).length = 3 := rfl

/-- a sector that is right is none of the first ones, and of another generation it is another one -/
theorem put_differs {l : List UInt8} {g : Int} {t : ByteArray} (hm : M.MayS (g + 1) t) (h : ∀ x, M.rdS l = some x → x.1 ≤ g) : l ≠ M.pad (M.slot (g + 1) t) := by
  intro e
  have := h _ (by rw [e]; exact M.rdS_pad hm)
  simp only at this
  omega
theorem found_max (l m : List UInt8) : (∀ x, M.rdS l = some x → x.1 ≤ (M.found (M.rdS l) (M.rdS m)).gen) ∧ (∀ x, M.rdS m = some x → x.1 ≤ (M.found (M.rdS l) (M.rdS m)).gen) := by
  rcases M.found_ways l m with ⟨h1, h2, h⟩ | ⟨g, t, h1, h2, hm, h⟩ | ⟨g, t, h1, h2, hm, h⟩ | ⟨g, t, g', t', h1, h2, hm, hm', hg, h⟩ | ⟨g, t, g', t', h1, h2, hm, hm', hg, h⟩
  all_goals rw [h, h1, h2]
  all_goals refine ⟨fun x hx => ?_, fun x hx => ?_⟩
  all_goals first
    | (cases hx; done)
    | (simp only [Option.some.injEq] at hx; subst hx; simp only; omega)
theorem row_first (w : World) (k : Nat) (hk : k < 10) : Row (w.alloc (.cells #[.int .u8 ((k : Int) + 1), .int .u8 9, .int .u8 9] 5)) (some ⟨w.heap.size, 0, none⟩) 3 3 (u8s (first k)) := by
  have e : u8s (first k) = [.int .u8 ((k : Int) + 1), .int .u8 9, .int .u8 9] := by
    simp only [u8s, first, List.map_cons, List.map_nil, u8, UInt8.toNat_ofNat']
    congr 1
    congr 1; omega
  rw [e]
  have := C.row_lit w 5 [.int .u8 ((k : Int) + 1), .int .u8 9, .int .u8 9] (by simp)
  exact this

theorem strs2_cells {w : World} {g : Nat} {s t : ByteArray} (h : Row w (some ⟨g, 0, none⟩) 2 2 (strs2 s t)) : w.cell? ⟨g, 0, none⟩ = some (.string s) ∧ w.cell? ⟨g, 1, none⟩ = some (.string t) ∧ g < w.heap.size := by
  obtain ⟨_, _, _, h0 | ⟨b, off, e, hlt, hc⟩⟩ := h
  · simp [strs2] at h0
  · injection e with e
    injection e with e1 e2 _
    subst e1 e2
    exact ⟨(hc 0 (by omega)).trans rfl, (hc 1 (by omega)).trans rfl, hlt⟩

/-- one of the two sectors, and only one, is another one behind a put -/
theorem alone_step {n : Nat} {d d' : M.Dv} (hf : Free d) (hwf : M.Wf n d) {i j : Nat} (hij : i ≠ j) {c : M.Cl} (hc : c = M.found (M.rdS (M.seen d i)) (M.rdS (M.seen d j))) (hg : c.gen < 4611686018427387904) {t : ByteArray} (ht : t.size ≤ 100)
    (hs : ∀ q : Nat, M.seen d' q = if q = M.pos c.o i j then M.pad (M.slot (c.gen + 1) t) else M.seen d q) :
    ((str (M.seen d i)).toList == (str (M.seen d' i)).toList) = false ∧ ((str (M.seen d j)).toList == (str (M.seen d' j)).toList) = true ∨ ((str (M.seen d i)).toList == (str (M.seen d' i)).toList) = true ∧ ((str (M.seen d j)).toList == (str (M.seen d' j)).toList) = false := by
  have hg2 := M.found_gen (M.seen d i) (M.seen d j)
  have hmx := found_max (M.seen d i) (M.seen d j)
  rw [← hc] at hg2 hmx
  have hm : M.MayS (c.gen + 1) t := ⟨by omega, by omega, ht⟩
  rw [hs i, hs j]
  by_cases h0 : c.o = 0
  · simp only [M.pos, if_pos h0]
    rw [if_true, if_neg (Ne.symm hij)]
    exact .inl ⟨str_ne fun e => put_differs hm hmx.1 (str_inj e), by simp⟩
  · simp only [M.pos, if_neg h0]
    rw [if_true, if_neg hij]
    exact .inr ⟨by simp, str_ne fun e => put_differs hm hmx.2 (str_inj e)⟩

theorem u8_nat {x : Int} (h : (Lit.int .u8 x).wf = true) : ∃ u : Nat, x = (u : Int) ∧ u < 256 := by
  simp [Lit.wf, IntKind.min, IntKind.max, IntKind.signed, IntKind.bits] at h
  exact ⟨x.toNat, by omega, by omega⟩

set_option maxHeartbeats 4000000 in
theorem walk (a0 : Option Addr) (n0 c0 : Nat) (l0 : List ByteArray) (x1 : Int) (x2 : Int) (w : World) (w0 : Row w a0 n0 c0 (C.strs l0)) (w1 : (Lit.int .u8 x1).wf = true) (w2 : (Lit.int .u8 x2).wf = true) :
    Calls Try.prog 6 #[.slice a0 n0 c0, .int .u8 x1, .int .u8 x2] w fun e w' => e = .returned (.bool true) ∧ Below w.heap.size w w' := by
  have HA := Lib.hid (awake_any w)
  have HW0 := Lib.hid w0
  obtain ⟨u, rfl, hu⟩ := u8_nat w1
  obtain ⟨v, rfl, hv⟩ := u8_nat w2
  clear w0 w1 w2
  obtain ⟨i, hui, hi⟩ : ∃ i : Nat, (u : Int) % 10 = (i : Int) ∧ i < 10 := ⟨u % 10, by omega, by omega⟩
  obtain ⟨j, hvj, hj⟩ : ∃ j : Nat, (v : Int) % 10 = (j : Int) ∧ j < 10 := ⟨v % 10, by omega, by omega⟩
  have hi0 : (0 : Int) ≤ (i : Int) := by omega
  have hi1 : (i : Int) < 10 := by omega
  have hj0 : (0 : Int) ≤ (j : Int) := by omega
  have hj1 : (j : Int) < 10 := by omega
  by_cases heq : i = j
  · subst heq
    go_enter Try.func6, Try.ntmps6
    go_wp2_with (first
      | (go_at_call 8; refine HA.out.mono ?_; rintro e w1 ⟨rfl, hb1⟩; have HB1 := Lib.hid hb1; clear hb1)
      | (go_at_call 11; refine (new_yes 10 (by omega) _).mono ?_; rintro e w2 ⟨dB, sB, mB, rfl, hd2, hb2, l1, l2, l3⟩
         have HB2 := Lib.hid (HB1.out.trans (hb2.mono HB1.out.size))
         clear hd2 hb2 l1 l2 l3))
    go_ret
    exact ⟨rfl, HB2.out⟩
  · have hne : ((i : Int) == (j : Int)) = false := by rw [beq_eq_false_iff_ne]; omega
    have Hij : Hid (i ≠ j ∧ i < 10 ∧ j < 10) := Lib.hid ⟨heq, hi, hj⟩
    clear heq
    go_enter Try.func6, Try.ntmps6
    go_wp2_with (first
      | (go_at_call 8; refine HA.out.mono ?_; rintro e w1 ⟨rfl, hb1⟩; have HB1 := Lib.hid hb1; clear hb1)
      | (go_at_call 11; refine (new_yes 10 (by omega) _).mono ?_; rintro e w2 ⟨dB, sB, mB, rfl, hd2, hb2, l1, l2, l3⟩
         have HD2 := Lib.hid hd2
         have HB2 := Lib.hid (HB1.out.trans (hb2.mono HB1.out.size))
         have HL : Hid (w.heap.size ≤ dB ∧ w.heap.size ≤ sB ∧ w.heap.size ≤ mB) := Lib.hid ⟨by have := HB1.out.size; omega, by have := HB1.out.size; omega, by have := HB1.out.size; omega⟩
         clear hd2 hb2 l1 l2 l3))
    clear hui hvj hu hv
    go_loopw [10] (fun s wr => ∃ (k : Nat) (d : M.Dv), k ≤ 10 ∧ s = .int .i64 k ∧ DevAt wr dB sB mB 10 d ∧ Free d ∧ (∀ q : Nat, q < k → M.seen d q = M.pad (first q)) ∧ But [dB, sB, mB] w2 wr) (fun s _ => 10 - (intOf s).toNat)
    case atStart => exact ⟨0, M.fresh, by omega, rfl, HD2.out, Free.fresh, fun q hq => by omega, But.refl _ _⟩
    case round =>
      obtain ⟨k, d, hk, rfl, hd, hf, hs, hb⟩ := hrel
      have HDv := Lib.hid hd
      have HFr := Lib.hid hf
      have HSe := Lib.hid hs
      have HBu := Lib.hid hb
      clear hd hf hs hb
      have hk0 : (0 : Int) ≤ (k : Int) := by omega
      by_cases hk10 : k < 10
      · have hkI : (k : Int) < 10 := by omega
        have HWr := Lib.hid (write_any (wr.alloc (.cells #[.int .u8 ((k : Int) + 1), .int .u8 9, .int .u8 9] 5)) (HDv.out.alloc _) (k : Int) (by omega) (by omega) _ _ _ (first k) (row_first wr k hk10) (.inr fun b off e => by injection e with e; injection e with e1 e2; have := HDv.out.ltD; simp; omega))
        have hE : M.writeE 10 d (k : Int) (first k) = 0 := by rw [HFr.out.writeE, if_neg (by omega), if_neg (by rw [first_len]; omega)]
        have HE := Lib.hid hE
        clear hE
        go_wp2_with (go_at_call 12; refine HWr.out.mono ?_; rintro e w3 ⟨rfl, hd3, hb3⟩
                     have HD3 := Lib.hid hd3
                     have HB3 : Hid (But [dB, sB, mB] w2 w3) := Lib.hid ((HBu.out.alloc _).trans (hb3.mono (by simp)))
                     clear hd3 hb3)
        go_roundw
        case rel =>
          refine ⟨k + 1, _, by omega, by go_num, HD3.out, HFr.out.write 10 _ _, fun q hq => ?_, HB3.out⟩
          by_cases hqk : q = k
          · subst hqk; exact seen_write_same HFr.out 10 _ HE.out
          · rw [seen_write HFr.out 10 (by omega)]; exact HSe.out q (by omega)
        case measure => simp [intOf]; omega
      · obtain rfl : k = 10 := by omega
        have HSe10 : Hid (∀ q : Nat, q < 10 → M.seen (M.barrierD d) q = M.pad (first q)) := Lib.hid fun q hq => by rw [seen_barrier HFr.out]; exact HSe.out q hq
        have HFb := Lib.hid HFr.out.barrier
        have HBa := Lib.hid (barrier_any wr HDv.out)
        have hge : ¬ ((10 : Int) < 10) := by omega
        clear hk hk0 hk10
        try rw [show ((10 : Nat) : Int) = 10 from rfl]
        go_wp2_with (go_at_call 22; refine HBa.out.mono ?_; rintro e w3 ⟨rfl, hd3, hb3⟩
                     have HD3 := Lib.hid hd3
                     have HB3 : Hid (But [dB, sB, mB] w2 w3) := Lib.hid (HBu.out.trans hb3)
                     clear hd3 hb3)
        generalize M.barrierD d = d0 at *
        have HOp := Lib.hid (open_yes w3 HD3.out HFb.out.2 i j Hij.out.1 Hij.out.2.1 Hij.out.2.2)
        rw [HSe10.out i Hij.out.2.1, HSe10.out j Hij.out.2.2, first_rdS, first_rdS] at HOp
        refine HOp.out.mono ?_
        rintro e w4 ⟨cB, rfl, lc, hc4, hb4⟩
        rw [M.f00] at hc4
        have HC4 := Lib.hid hc4
        have HD4 := Lib.hid (HD3.out.but (But.of_below hb4) (by simp) (by simp) (by simp))
        have HB4 : Hid (But [dB, sB, mB, cB] w2 w4) := Lib.hid ((HB3.out.mono (by simp)).trans ((But.of_below hb4).mono (by simp)))
        have HLc : Hid (w.heap.size ≤ cB ∧ cB ≠ dB ∧ cB ≠ sB ∧ cB ≠ mB) := Lib.hid ⟨by have := HB2.out.size; have := HB3.out.size; omega, by have := HD3.out.ltD; omega, by have := HD3.out.lt; omega, by have := HD3.out.pend.lt; omega⟩
        clear lc hc4 hb4 HOp HBa HD2 HDv HD3
        go_wp2_with fail
        go_loopw [13] (fun s wr => ∃ (k : Nat) (d : M.Dv) (c : M.Cl), k ≤ 60 ∧ k ≤ n0 ∧ s = .int .i64 k ∧ DevAt wr dB sB mB 10 d ∧ Free d ∧ CellAt wr cB dB i j c ∧ c = M.found (M.rdS (M.seen d i)) (M.rdS (M.seen d j)) ∧ c.gen = (k : Int) ∧ (∀ q : Nat, q < 10 → q ≠ i → q ≠ j → M.seen d q = M.pad (first q)) ∧ But [dB, sB, mB, cB] w2 wr) (fun s _ => 60 - (intOf s).toNat)
        case atStart => exact ⟨0, d0, ⟨0, 0, ByteArray.empty⟩, by omega, by omega, rfl, HD4.out, HFb.out, HC4.out, by rw [HSe10.out i Hij.out.2.1, HSe10.out j Hij.out.2.2, first_rdS, first_rdS]; rfl, rfl, fun q hq _ _ => HSe10.out q hq, HB4.out⟩
        case round =>
          clear HSe HFr
          obtain ⟨k, d, c, hk60, hkn, rfl, hd, hf, hc, hcf, hcg, ho, hb⟩ := hrel
          obtain ⟨co, cg, ct⟩ := c
          simp only at hcg
          subst hcg
          have HDv := Lib.hid hd
          have HFr := Lib.hid hf
          have HC := Lib.hid hc
          have HCf := Lib.hid hcf
          have HOt := Lib.hid ho
          have HBu := Lib.hid hb
          have HBl : Hid (Below w.heap.size w wr) := Lib.hid (HB2.out.trans (hb.to_below (by have := HL.out; have := HLc.out; simp; omega) HB2.out.size))
          clear hd hf hc hcf ho hb HC4 HD4 HSe10 HFb
          have hk0 : (0 : Int) ≤ (k : Int) := by omega
          by_cases hlt : (k : Int) < (n0 : Int)
          · by_cases hlt6 : (k : Int) < 60
            · obtain ⟨b, off, t, rfl, ht, hcell, hbl⟩ := strs_at HW0.out HBl.out (show k < n0 by omega)
              have Hbl := Lib.hid hbl
              clear ht hbl
              by_cases hbig : 100 < t.size
              · have hbigI : (100 : Int) < (t.size : Int) := by omega
                clear hbig
                go_wp2_with fail
                go_ret
                exact ⟨rfl, HBl.out⟩
              · have hbigI : ¬ ((100 : Int) < (t.size : Int)) := by omega
                have Hsz : Hid (t.size ≤ 100) := Lib.hid (by omega)
                clear hbig
                have HS1 := Lib.hid (slots_any wr HDv.out HFr.out.2 i j Hij.out.2.1 Hij.out.2.2)
                go_wp2_with (go_at_call 17; refine HS1.out.mono ?_; rintro e w5 ⟨g1, rfl, lg1, hr1, hb5⟩
                             have HD5 := Lib.hid (HDv.out.but (But.of_below hb5) (by simp) (by simp) (by simp))
                             have HC5 := Lib.hid (HC.out.below hb5 HC.out.lt)
                             have HG1 := Lib.hid (And.intro (strs2_cells hr1) (And.intro lg1 hr1))
                             have HBl5 := Lib.hid (HBl.out.trans (hb5.mono HBl.out.size))
                             have HBu5 : Hid (But [dB, sB, mB, cB] w2 w5) := Lib.hid (HBu.out.trans ((But.of_below hb5).mono (by simp)))
                             have hcell5 : w5.cell? ⟨b, off + k, none⟩ = some (.string t) := by
                               rw [hb5.cell (p := ⟨b, off + k, none⟩) (Nat.lt_of_lt_of_le Hbl.out HBl.out.size)]; exact hcell
                             have HPt := Lib.hid (put_ok w5 HD5.out HFr.out cB i j ⟨co, (k : Int), ct⟩ HC5.out HLc.out.2 HCf.out (by simp only; omega) Hij.out.1 Hij.out.2.1 Hij.out.2.2 t Hsz.out)
                             clear lg1 hr1 hb5 hcell)
                refine HPt.out.mono ?_
                rintro e w6 ⟨rfl, d6, hd6, hf6, _, hs6, hc6, hcf6, hb6⟩
                have HD6 := Lib.hid hd6
                have HF6 := Lib.hid hf6
                have HSe6 := Lib.hid hs6
                have HC6 := Lib.hid hc6
                have HCf6 := Lib.hid hcf6
                have HBu6 := Lib.hid (HBu5.out.trans hb6)
                have HG6 : Hid (w6.cell? ⟨g1, 0, none⟩ = some (.string (str (M.seen d i))) ∧ w6.cell? ⟨g1, 1, none⟩ = some (.string (str (M.seen d j))) ∧ g1 < w6.heap.size) := Lib.hid (by
                  obtain ⟨⟨x1, x2, x3⟩, x4, _⟩ := HG1.out
                  have hn : g1 ∉ [dB, sB, mB, cB] := by have := HDv.out.ltD; have := HDv.out.lt; have := HDv.out.pend.lt; have := HC.out.lt; simp; omega
                  exact ⟨by rw [hb6.cell x3 hn]; exact x1, by rw [hb6.cell x3 hn]; exact x2, Nat.lt_of_lt_of_le x3 hb6.size⟩)
                clear hd6 hf6 hs6 hc6 hcf6 hb6 HPt HS1
                have HS2 := Lib.hid (slots_any w6 HD6.out HF6.out.2 i j Hij.out.2.1 Hij.out.2.2)
                go_wp2_with (go_at_call 17; refine HS2.out.mono ?_; rintro e w7 ⟨g2, rfl, lg2, hr2, hb7⟩
                             have HD7 := Lib.hid (HD6.out.but (But.of_below hb7) (by simp) (by simp) (by simp))
                             have HC7 := Lib.hid (HC6.out.below hb7 HC6.out.lt)
                             have HBu7 : Hid (But [dB, sB, mB, cB] w2 w7) := Lib.hid (HBu6.out.trans ((But.of_below hb7).mono (by simp)))
                             obtain ⟨m3, m4, _⟩ := strs2_cells hr2
                             have m1 : w7.cell? ⟨g1, 0, none⟩ = some (.string (str (M.seen d i))) := by rw [hb7.cell (p := ⟨g1, 0, none⟩) HG6.out.2.2]; exact HG6.out.1
                             have m2 : w7.cell? ⟨g1, 1, none⟩ = some (.string (str (M.seen d j))) := by rw [hb7.cell (p := ⟨g1, 1, none⟩) HG6.out.2.2]; exact HG6.out.2.1
                             clear lg2 hr2 hb7)
                have HNx : Hid (((str (M.seen d i)).toList == (str (M.seen d6 i)).toList) = false ∧ ((str (M.seen d j)).toList == (str (M.seen d6 j)).toList) = true ∨ ((str (M.seen d i)).toList == (str (M.seen d6 i)).toList) = true ∧ ((str (M.seen d j)).toList == (str (M.seen d6 j)).toList) = false) := Lib.hid (alone_step HFr.out HDv.out.wf Hij.out.1 HCf.out (by simp only; omega) Hsz.out HSe6.out)
                have HOt6 : Hid (∀ q : Nat, q < 10 → q ≠ i → q ≠ j → M.seen d6 q = M.pad (first q)) := Lib.hid fun q h1 h2 h3 => by
                  rw [HSe6.out q, if_neg (by unfold M.pos; split <;> omega)]
                  exact HOt.out q h1 h2 h3
                generalize str (M.seen d i) = p1 at *
                generalize str (M.seen d6 i) = p2 at *
                generalize str (M.seen d j) = p3 at *
                generalize str (M.seen d6 j) = p4 at *
                obtain ⟨f1, f2⟩ | ⟨f1, f2⟩ := HNx.out
                · go_quiet (fail)
                  go_wp2_with fail
                  go_roundw
                  case rel => exact ⟨k + 1, d6, _, by omega, by omega, by go_num, HD7.out.drewN _, HF6.out, HC7.out.of_block rfl, HCf6.out, by simp only; omega, HOt6.out, HBu7.out.drewN _⟩
                  case measure => simp [intOf]; omega
                · go_quiet (fail)
                  go_wp2_with fail
                  go_roundw
                  case rel => exact ⟨k + 1, d6, _, by omega, by omega, by go_num, HD7.out.drewN _, HF6.out, HC7.out.of_block rfl, HCf6.out, by simp only; omega, HOt6.out, HBu7.out.drewN _⟩
                  case measure => simp [intOf]; omega
            · go_wp2_with fail
              go_loopw [16] (fun s wr => ∃ k : Nat, k ≤ 10 ∧ s = .int .i64 k ∧ DevAt wr dB sB mB 10 d ∧ Below w.heap.size w wr) (fun s _ => 10 - (intOf s).toNat)
              case atStart => exact ⟨0, by omega, rfl, HDv.out, HBl.out⟩
              case round =>
                obtain ⟨q, hq, rfl, hd, hb⟩ := hrel
                have HDq := Lib.hid hd
                have HBq := Lib.hid hb
                clear hd hb
                have hq0 : (0 : Int) ≤ (q : Int) := by omega
                by_cases hq10 : q < 10
                · have hqI : (q : Int) < 10 := by omega
                  have HRd := Lib.hid (read_yes _ HDq.out q (reach_ok HFr.out.2 hq10))
                  go_wp2_with (go_at_call 23; refine HRd.out.mono ?_; rintro e w9 ⟨bR, rfl, hbR, hltR, hrg, _, hb9⟩
                               have HD9 := Lib.hid (HDq.out.but (But.of_below hb9) (by simp) (by simp) (by simp))
                               have HB9 := Lib.hid (HBq.out.trans (hb9.mono HBq.out.size))
                               have HRg := Lib.hid (And.intro hrg hltR)
                               clear hbR hltR hrg hb9)
                  by_cases hqi : q = i
                  · have e1 : ((q : Int) != (i : Int)) = false := by simp [hqi]
                    clear hqi
                    go_quiet (fail)
                    go_wp2_with fail
                    go_roundw
                    case rel => exact ⟨q + 1, by omega, by go_num, HD9.out.drewN _, HB9.out.trans (below_drewN _ _ _)⟩
                    case measure => simp [intOf]; omega
                  · have e1 : ((q : Int) != (i : Int)) = true := by simp; omega
                    by_cases hqj : q = j
                    · have e2 : ((q : Int) != (j : Int)) = false := by simp [hqj]
                      clear hqi hqj
                      go_quiet (fail)
                      go_wp2_with fail
                      go_roundw
                      case rel => exact ⟨q + 1, by omega, by go_num, HD9.out.drewN _, HB9.out.trans (below_drewN _ _ _)⟩
                      case measure => simp [intOf]; omega
                    · have e2 : ((q : Int) != (j : Int)) = true := by simp; omega
                      have hsq := HOt.out q hq10 hqi hqj
                      have h1 := HRg.out.1
                      rw [hsq] at h1
                      have kc : ∀ w' : World, w'.heap[bR]? = w9.heap[bR]? → bR < w'.heap.size → (convert 23 9 (.slice (some ⟨bR, 0, none⟩) 3 144)).run Try.prog w' = .ok (.string (str (first q))) w' := fun w' hh hl => by
                        have := conv_take (w := w') (k := 3) (rangeAt_block h1 hh) hl (by rfl) (by omega)
                        rwa [first_take] at this
                      have kS0 := kc w9.drew rfl HRg.out.2
                      have kS1 := kc (w9.alloc (.cells #[.int .u8 ((q : Int) + 1), .int .u8 9, .int .u8 9] 5)).drew (Below.heap_alloc w9 _ _ HRg.out.2) (by show bR < (w9.alloc (.cells #[.int .u8 ((q : Int) + 1), .int .u8 9, .int .u8 9] 5)).heap.size; have := HRg.out.2; simp; omega)
                      have kS2 : (convert 23 9 (.slice (some ⟨w9.heap.size, 0, none⟩) 3 3)).run Try.prog (w9.alloc (.cells #[.int .u8 ((q : Int) + 1), .int .u8 9, .int .u8 9] 5)).drew = .ok (.string (str (first q))) (w9.alloc (.cells #[.int .u8 ((q : Int) + 1), .int .u8 9, .int .u8 9] 5)).drew := conv_row (w := (w9.alloc (.cells #[.int .u8 ((q : Int) + 1), .int .u8 9, .int .u8 9] 5)).drew) (row_first w9 q hq10)
                      have kw : IntKind.i64.wrap ((q : Int) + 1) = (q : Int) + 1 := by simp [IntKind.wrap, IntKind.bits, IntKind.signed]; omega
                      have kw8 : IntKind.u8.wrap ((q : Int) + 1) = (q : Int) + 1 := by simp [IntKind.wrap, IntKind.bits, IntKind.signed]; omega
                      have HD9a := Lib.hid ((HD9.out.alloc (.cells #[.int .u8 ((q : Int) + 1), .int .u8 9, .int .u8 9] 5)).drew)
                      have HB9a := Lib.hid ((HB9.out.alloc HB9.out.size (.cells #[.int .u8 ((q : Int) + 1), .int .u8 9, .int .u8 9] 5)).drew)
                      clear hqi hqj hsq h1 kc
                      generalize str (first q) = fq at *
                      go_region_held (fun w' => (convert 23 9 (.slice (some ⟨bR, 0, none⟩) 3 144)).run Try.prog w' = .ok (.string fq) w') (first | exact kS0 | exact kS1) (first | fail)
                      go_wp2_with fail
                      go_roundw
                      case rel => exact ⟨q + 1, by omega, by go_num, HD9a.out, HB9a.out⟩
                      case measure => simp [intOf]; omega
                · obtain rfl : q = 10 := by omega
                  have hge : ¬ ((10 : Int) < 10) := by omega
                  try rw [show ((10 : Nat) : Int) = 10 from rfl]
                  go_wp2_with fail
                  go_ret
                  exact ⟨rfl, HBq.out⟩
          · by_cases hlt6 : (k : Int) < 60
            · go_wp2_with fail
              go_loopw [16] (fun s wr => ∃ k : Nat, k ≤ 10 ∧ s = .int .i64 k ∧ DevAt wr dB sB mB 10 d ∧ Below w.heap.size w wr) (fun s _ => 10 - (intOf s).toNat)
              case atStart => exact ⟨0, by omega, rfl, HDv.out, HBl.out⟩
              case round =>
                obtain ⟨q, hq, rfl, hd, hb⟩ := hrel
                have HDq := Lib.hid hd
                have HBq := Lib.hid hb
                clear hd hb
                have hq0 : (0 : Int) ≤ (q : Int) := by omega
                by_cases hq10 : q < 10
                · have hqI : (q : Int) < 10 := by omega
                  have HRd := Lib.hid (read_yes _ HDq.out q (reach_ok HFr.out.2 hq10))
                  go_wp2_with (go_at_call 23; refine HRd.out.mono ?_; rintro e w9 ⟨bR, rfl, hbR, hltR, hrg, _, hb9⟩
                               have HD9 := Lib.hid (HDq.out.but (But.of_below hb9) (by simp) (by simp) (by simp))
                               have HB9 := Lib.hid (HBq.out.trans (hb9.mono HBq.out.size))
                               have HRg := Lib.hid (And.intro hrg hltR)
                               clear hbR hltR hrg hb9)
                  by_cases hqi : q = i
                  · have e1 : ((q : Int) != (i : Int)) = false := by simp [hqi]
                    clear hqi
                    go_quiet (fail)
                    go_wp2_with fail
                    go_roundw
                    case rel => exact ⟨q + 1, by omega, by go_num, HD9.out.drewN _, HB9.out.trans (below_drewN _ _ _)⟩
                    case measure => simp [intOf]; omega
                  · have e1 : ((q : Int) != (i : Int)) = true := by simp; omega
                    by_cases hqj : q = j
                    · have e2 : ((q : Int) != (j : Int)) = false := by simp [hqj]
                      clear hqi hqj
                      go_quiet (fail)
                      go_wp2_with fail
                      go_roundw
                      case rel => exact ⟨q + 1, by omega, by go_num, HD9.out.drewN _, HB9.out.trans (below_drewN _ _ _)⟩
                      case measure => simp [intOf]; omega
                    · have e2 : ((q : Int) != (j : Int)) = true := by simp; omega
                      have hsq := HOt.out q hq10 hqi hqj
                      have h1 := HRg.out.1
                      rw [hsq] at h1
                      have kc : ∀ w' : World, w'.heap[bR]? = w9.heap[bR]? → bR < w'.heap.size → (convert 23 9 (.slice (some ⟨bR, 0, none⟩) 3 144)).run Try.prog w' = .ok (.string (str (first q))) w' := fun w' hh hl => by
                        have := conv_take (w := w') (k := 3) (rangeAt_block h1 hh) hl (by rfl) (by omega)
                        rwa [first_take] at this
                      have kS0 := kc w9.drew rfl HRg.out.2
                      have kS1 := kc (w9.alloc (.cells #[.int .u8 ((q : Int) + 1), .int .u8 9, .int .u8 9] 5)).drew (Below.heap_alloc w9 _ _ HRg.out.2) (by show bR < (w9.alloc (.cells #[.int .u8 ((q : Int) + 1), .int .u8 9, .int .u8 9] 5)).heap.size; have := HRg.out.2; simp; omega)
                      have kS2 : (convert 23 9 (.slice (some ⟨w9.heap.size, 0, none⟩) 3 3)).run Try.prog (w9.alloc (.cells #[.int .u8 ((q : Int) + 1), .int .u8 9, .int .u8 9] 5)).drew = .ok (.string (str (first q))) (w9.alloc (.cells #[.int .u8 ((q : Int) + 1), .int .u8 9, .int .u8 9] 5)).drew := conv_row (w := (w9.alloc (.cells #[.int .u8 ((q : Int) + 1), .int .u8 9, .int .u8 9] 5)).drew) (row_first w9 q hq10)
                      have kw : IntKind.i64.wrap ((q : Int) + 1) = (q : Int) + 1 := by simp [IntKind.wrap, IntKind.bits, IntKind.signed]; omega
                      have kw8 : IntKind.u8.wrap ((q : Int) + 1) = (q : Int) + 1 := by simp [IntKind.wrap, IntKind.bits, IntKind.signed]; omega
                      have HD9a := Lib.hid ((HD9.out.alloc (.cells #[.int .u8 ((q : Int) + 1), .int .u8 9, .int .u8 9] 5)).drew)
                      have HB9a := Lib.hid ((HB9.out.alloc HB9.out.size (.cells #[.int .u8 ((q : Int) + 1), .int .u8 9, .int .u8 9] 5)).drew)
                      clear hqi hqj hsq h1 kc
                      generalize str (first q) = fq at *
                      go_region_held (fun w' => (convert 23 9 (.slice (some ⟨bR, 0, none⟩) 3 144)).run Try.prog w' = .ok (.string fq) w') (first | exact kS0 | exact kS1) (first | fail)
                      go_wp2_with fail
                      go_roundw
                      case rel => exact ⟨q + 1, by omega, by go_num, HD9a.out, HB9a.out⟩
                      case measure => simp [intOf]; omega
                · obtain rfl : q = 10 := by omega
                  have hge : ¬ ((10 : Int) < 10) := by omega
                  try rw [show ((10 : Nat) : Int) = 10 from rfl]
                  go_wp2_with fail
                  go_ret
                  exact ⟨rfl, HBq.out⟩
            · go_wp2_with fail
              go_loopw [16] (fun s wr => ∃ k : Nat, k ≤ 10 ∧ s = .int .i64 k ∧ DevAt wr dB sB mB 10 d ∧ Below w.heap.size w wr) (fun s _ => 10 - (intOf s).toNat)
              case atStart => exact ⟨0, by omega, rfl, HDv.out, HBl.out⟩
              case round =>
                obtain ⟨q, hq, rfl, hd, hb⟩ := hrel
                have HDq := Lib.hid hd
                have HBq := Lib.hid hb
                clear hd hb
                have hq0 : (0 : Int) ≤ (q : Int) := by omega
                by_cases hq10 : q < 10
                · have hqI : (q : Int) < 10 := by omega
                  have HRd := Lib.hid (read_yes _ HDq.out q (reach_ok HFr.out.2 hq10))
                  go_wp2_with (go_at_call 23; refine HRd.out.mono ?_; rintro e w9 ⟨bR, rfl, hbR, hltR, hrg, _, hb9⟩
                               have HD9 := Lib.hid (HDq.out.but (But.of_below hb9) (by simp) (by simp) (by simp))
                               have HB9 := Lib.hid (HBq.out.trans (hb9.mono HBq.out.size))
                               have HRg := Lib.hid (And.intro hrg hltR)
                               clear hbR hltR hrg hb9)
                  by_cases hqi : q = i
                  · have e1 : ((q : Int) != (i : Int)) = false := by simp [hqi]
                    clear hqi
                    go_quiet (fail)
                    go_wp2_with fail
                    go_roundw
                    case rel => exact ⟨q + 1, by omega, by go_num, HD9.out.drewN _, HB9.out.trans (below_drewN _ _ _)⟩
                    case measure => simp [intOf]; omega
                  · have e1 : ((q : Int) != (i : Int)) = true := by simp; omega
                    by_cases hqj : q = j
                    · have e2 : ((q : Int) != (j : Int)) = false := by simp [hqj]
                      clear hqi hqj
                      go_quiet (fail)
                      go_wp2_with fail
                      go_roundw
                      case rel => exact ⟨q + 1, by omega, by go_num, HD9.out.drewN _, HB9.out.trans (below_drewN _ _ _)⟩
                      case measure => simp [intOf]; omega
                    · have e2 : ((q : Int) != (j : Int)) = true := by simp; omega
                      have hsq := HOt.out q hq10 hqi hqj
                      have h1 := HRg.out.1
                      rw [hsq] at h1
                      have kc : ∀ w' : World, w'.heap[bR]? = w9.heap[bR]? → bR < w'.heap.size → (convert 23 9 (.slice (some ⟨bR, 0, none⟩) 3 144)).run Try.prog w' = .ok (.string (str (first q))) w' := fun w' hh hl => by
                        have := conv_take (w := w') (k := 3) (rangeAt_block h1 hh) hl (by rfl) (by omega)
                        rwa [first_take] at this
                      have kS0 := kc w9.drew rfl HRg.out.2
                      have kS1 := kc (w9.alloc (.cells #[.int .u8 ((q : Int) + 1), .int .u8 9, .int .u8 9] 5)).drew (Below.heap_alloc w9 _ _ HRg.out.2) (by show bR < (w9.alloc (.cells #[.int .u8 ((q : Int) + 1), .int .u8 9, .int .u8 9] 5)).heap.size; have := HRg.out.2; simp; omega)
                      have kS2 : (convert 23 9 (.slice (some ⟨w9.heap.size, 0, none⟩) 3 3)).run Try.prog (w9.alloc (.cells #[.int .u8 ((q : Int) + 1), .int .u8 9, .int .u8 9] 5)).drew = .ok (.string (str (first q))) (w9.alloc (.cells #[.int .u8 ((q : Int) + 1), .int .u8 9, .int .u8 9] 5)).drew := conv_row (w := (w9.alloc (.cells #[.int .u8 ((q : Int) + 1), .int .u8 9, .int .u8 9] 5)).drew) (row_first w9 q hq10)
                      have kw : IntKind.i64.wrap ((q : Int) + 1) = (q : Int) + 1 := by simp [IntKind.wrap, IntKind.bits, IntKind.signed]; omega
                      have kw8 : IntKind.u8.wrap ((q : Int) + 1) = (q : Int) + 1 := by simp [IntKind.wrap, IntKind.bits, IntKind.signed]; omega
                      have HD9a := Lib.hid ((HD9.out.alloc (.cells #[.int .u8 ((q : Int) + 1), .int .u8 9, .int .u8 9] 5)).drew)
                      have HB9a := Lib.hid ((HB9.out.alloc HB9.out.size (.cells #[.int .u8 ((q : Int) + 1), .int .u8 9, .int .u8 9] 5)).drew)
                      clear hqi hqj hsq h1 kc
                      generalize str (first q) = fq at *
                      go_region_held (fun w' => (convert 23 9 (.slice (some ⟨bR, 0, none⟩) 3 144)).run Try.prog w' = .ok (.string fq) w') (first | exact kS0 | exact kS1) (first | fail)
                      go_wp2_with fail
                      go_roundw
                      case rel => exact ⟨q + 1, by omega, by go_num, HD9a.out, HB9a.out⟩
                      case measure => simp [intOf]; omega
                · obtain rfl : q = 10 := by omega
                  have hge : ¬ ((10 : Int) < 10) := by omega
                  try rw [show ((10 : Nat) : Int) = 10 from rfl]
                  go_wp2_with fail
                  go_ret
                  exact ⟨rfl, HBq.out⟩

set_option maxRecDepth 100000 in
theorem lifted (os : Os) (started : os.Started) (H : Type) (enc : TypeId × Value → H) :
    ReturnsInHanded {} Try.checked os 6 .any (Rows.cellAloneSpec.pre6 enc Try.prog Try.f6 Rows.cellAloneRow.domain false) (Rows.cellAloneSpec.post enc Try.prog Try.f6 false true false false) := by
  refine returnsInHanded_of_change (C := Try.checked) own started (by kernel_rfl) Try.func6
    (ChangeSpec.witness6 (enc := enc) (C := Try.checked) false ⟨#[], #[.slice none 0 0, .int .u8 0, .int .u8 0], []⟩ 8 (by kernel_rfl) (by kernel_rfl) (by kernel_rfl) (by kernel_rfl)) ?_
  intro W base args ds gs before hval0 hW hcnd _
  have hval : ∀ (j : Nat) t v, Try.f6.params[j]? = some t → args[j]? = some v → Value.okWide Try.prog W .any base t v := hval0
  have hW' := hW
  obtain ⟨p, q, hA0, hV, rfl, hfz, hnd⟩ := hW
  have hA : DataW.TrodAll enc Try.prog W 0 (fun _ => true) true Try.f6.params.toList args.toList ds p := hA0
  rw [Try.params6] at hA hval
  obtain ⟨v0, vs0, d0, ds0, p0, q0, hargs, rfl, rfl, h0, r0'⟩ := trodAll_cons hA
  obtain ⟨v1, vs1, d1, ds1, p1, q1, rfl, rfl, rfl, h1, r1'⟩ := trodAll_cons r0'
  obtain ⟨v2, vs2, d2, ds2, p2, q2, rfl, rfl, rfl, h2, r2'⟩ := trodAll_cons r1'
  obtain ⟨rfl, rfl, rfl⟩ := trodAll_nil r2'
  obtain rfl : args = #[v0, v1, v2] := by cases args; simp_all
  obtain ⟨rfl, rfl⟩ := trodVars_none hV
  have k0 := h0
  have lt0 : ∀ x ∈ p0, x.block < W.heap.size := by obtain ⟨m, hm⟩ := k0; exact DataW.trod_lt m _ _ _ hm
  obtain ⟨a0, n0, c0, l0, rfl, w0⟩ := open_strs h0 (okWide_slice Try.underlying35 (hval 0 35 v0 rfl rfl))
  obtain ⟨x1, rfl, rfl, rfl, w1⟩ := open_int Try.underlying5 (hval 1 5 v1 rfl rfl) h1
  obtain ⟨x2, rfl, rfl, rfl, w2⟩ := open_int Try.underlying5 (hval 2 5 v2 rfl rfl) h2
  clear hA0 hval0
  refine (walk a0 n0 c0 l0 x1 x2 W w0 w1 w2).mono fun e W' ⟨he, bel⟩ => ?_
  subst he
  exact ⟨_, rfl, _, _, _, [], _, [], hW', trodAll_mk1 (shut_bool Try.underlying4 _), (trodAll_cons_mk (Below.trod laidOut (by kernel_rfl) (of_decide_eq_true (by kernel_rfl)) k0 bel lt0) (trodAll_cons_mk (shut_int Try.underlying5 w1) (trodAll_cons_mk (shut_int Try.underlying5 w2) trodAll_mk0))), rfl, bel.frame _, fun h => by cases h⟩

theorem over : Rows.cellAloneRow.holds Try.pinned (OpenSpec.ofChange Rows.cellAloneSpec) :=
  OpenClaim.holds_of_wide 6 Try.f6 rfl rfl rfl rfl rfl rfl rfl ⟨rfl, rfl, rfl, rfl, rfl⟩ rfl rfl rfl rfl rfl (by kernel_rfl) Try.func6 (by kernel_rfl)
    (of_decide_eq_true (by kernel_rfl)) (by unfold Func.isWrapper; first | (rw [if_pos (by decide +kernel)]; kernel_rfl) | (rw [if_neg (by decide +kernel)]; exact ⟨rfl, rfl⟩))
    (fun os started H enc _ => lifted os started H enc)

/-- the statement -/
theorem proved : Rows.CellAloneSaid := over
#print axioms proved
end Go.Proofs.Ytipfhcplmlmaeaa.cellAlone
