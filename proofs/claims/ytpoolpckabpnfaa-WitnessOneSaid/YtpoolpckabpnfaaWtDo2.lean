/-
  What a crash, and a fuse, do to a life.
-/
import Derived.Test.YtpoolpckabpnfaaWtDo1
import Derived.BigQuiet
import Derived.Deep.RegionHeld3
import Derived.Deep.DeepCutAuto
namespace Go.Proofs.Ytpoolpckabpnfaa.Wt
open Go.RowKit
open Ml (Mg may msgV MB)
set_option linter.unusedVariables false
set_option linter.unusedSimpArgs false
set_option maxRecDepth 20000

variable {w0 w w' : World} {gB pB dB sB mB : Nat} {d : M.Dv} {tB cB : Nat} {c : M.Cl} {L W : Int} {N : Nat} {E : Int → Option Int}


/-- what is left behind a crash, and an opening -/
theorem crash_end {wz w8 w9 : World} {dd : M.Dv} {tB2 cB2 : Nat} {c' : M.Cl} (h : LF w w gB pB dB sB mB d tB cB c L W N E) (hz : Below w.heap.size w wz) (h8 : But [dB, sB, mB] wz w8) (hs : WS w9 dB sB mB 2 dd tB2 cB2 0 1 c' W W) (h9 : Below w8.heap.size w8 w9) (h1 : w8.heap.size ≤ tB2) (h2 : w8.heap.size ≤ cB2) (hf : FI 2 0 1 dd c') (hg : Good E (fx c'.text)) :
    LF w ((w9.setCell ⟨gB, 1, none⟩ (.pointer (some ⟨tB2, 0, none⟩))).setCell ⟨gB, 4, none⟩ (.bool false)) gB pB dB sB mB dd tB2 cB2 c' W W N E := by
  have hgp := h.gp
  simp only [mem_ours] at hgp
  have hl := h.lt
  have g1 := hl gB (by simp)
  have g2 := hl pB (by simp)
  have g3 := hl dB (by simp [ours])
  have g4 := hl sB (by simp [ours])
  have g5 := hl mB (by simp [ours])
  have s1 := hz.size
  have s2 := h8.size
  have s3 := h9.size
  have hgn : gB ∉ ours dB sB mB cB2 tB2 := by simp only [mem_ours]; omega
  have hpn : pB ∉ ours dB sB mB cB2 tB2 := by simp only [mem_ours]; omega
  have hset : But [gB] w9 ((w9.setCell ⟨gB, 1, none⟩ (.pointer (some ⟨tB2, 0, none⟩))).setCell ⟨gB, 4, none⟩ (.bool false)) := ((But.refl [gB] w9).set _ (.inl (by simp))).set _ (.inl (by simp))
  have l8 : Bo w8 gB (lfC dB tB W pB) 30 := (h.lf.below hz g1).but h8 (by simp; omega)
  have l9 : Bo w9 gB (lfC dB tB W pB) 30 := l8.below h9 l8.lt
  have m8 : MapI w8 pB N E := (h.mp.below hz g2).but h8 (by simp; omega)
  have hbu : But (gB :: pB :: ours dB sB mB cB2 tB2) w w9 := but_more (but_more ((But.of_below hz).mono (by simp)) h8 (fun x hx => .inl (by simp at hx; simp [ours]; omega))) (But.of_below h9) (by simp)
  exact ⟨hs.but hset (by simpa using hgn), (l9.set 1 _).set 4 _, (m8.below h9 m8.lt).but hset (by simp; omega), ⟨hgp.1, hgn, hpn⟩, hf, hg, but_more hbu hset (fun x hx => .inl (by simp at hx; simp [hx]))⟩

set_option maxHeartbeats 8000000 in
theorem do2 (h : LF w w gB pB dB sB mB d tB cB c L W N E) (x : Ac) (hk : x.kind = 2) (hx : x.Ok w) (hnl : x.nL ≤ 600) :
    Calls Try.prog 11 #[.pointer (some ⟨gB, 0, none⟩), actV x] w fun e w' => e = .returned (.tuple #[msgV Ml.nil, .bool false]) ∧
      ∃ d' tB2 cB2 c', Suc (fx c.text) (fx c'.text) ∧ w.heap.size ≤ tB2 ∧ w.heap.size ≤ cB2 ∧ LF w w' gB pB dB sB mB d' tB2 cB2 c' W W N E := by
  have hX := do_boxes w x.cells.toArray
  have HLw := Lib.hid h
  have Hge := Lib.hid (fun g => @LF.not_mem w w gB pB dB sB mB d tB cB c L W N E h g)
  have HXa := Lib.hid hX.1
  have HZ0 := Lib.hid hX.2.1
  have HB0 := Lib.hid hX.2.2
  have HWt := Lib.hid h.ws.wt
  have HN6 := Lib.hid hnl
  have HK0 := Lib.hid hx.1
  have hnlI : (x.nL : Int) ≤ 600 := by omega
  have hnl0 : (0 : Int) ≤ (x.nL : Int) := by omega
  obtain ⟨kind, n, fr, ⟨mk, mep, msq, mn, mb, mc, me, m0, m1, m2, m3, data, row⟩, s, aL, nL, cL, l⟩ := x
  simp only at hk hx hnl HN6 HK0 hnlI hnl0
  subst hk
  clear h hX hx hnl
  simp only [actV, Ac.cells, Mg.cells, msgV, Ml.nil] at *
  generalize hW0 : (w.alloc (.cells #[.int .i64 2, .int .i64 n, .int .i64 fr, .int .i64 mk, .int .i64 mep, .int .i64 msq, .int .i64 mn, .int .i64 mb, .int .i64 mc, .int .i64 me, .int .i64 m0, .int .i64 m1, .int .i64 m2, .int .i64 m3, .string data, .string row, .string s, .slice aL nL cL] 38)).alloc (.cells #[.int .i64 0, .int .i64 0, .int .i64 0, .int .i64 0, .int .i64 0, .int .i64 0, .int .i64 0, .int .i64 0, .int .i64 0, .int .i64 0, .int .i64 0, .string ⟨#[]⟩, .string ⟨#[]⟩] 35) = W0 at *
  have hs0 : W0.heap.size = w.heap.size + 2 := by rw [← hW0]; simp
  have HB1 : Hid (Below w.heap.size w (W0.alloc (.cells #[] 54))) := Lib.hid (HB0.out.alloc HB0.out.size _)
  have HK1 : Hid (KRow (W0.alloc (.cells #[] 54)) aL nL cL l) := Lib.hid (krow_but HK0.out (But.of_below HB1.out) (.inr (by simp)))
  have HZ1 : Hid (MB (W0.alloc (.cells #[] 54)) (w.heap.size + 1) Ml.nil) := Lib.hid (MB.below HZ0.out ((Below.refl W0.heap.size W0).alloc (Nat.le_refl _) _) (by omega))
  have HE1 : Hid ((W0.alloc (.cells #[] 54)).heap[w.heap.size + 2]? = some (.cells #[] 54 (0, 0))) := Lib.hid (by rw [← hs0]; exact heap_alloc_new W0 _)
  have HL1 : Hid (LF w (W0.alloc (.cells #[] 54)) gB pB dB sB mB d tB cB c L W N E) := Lib.hid (HLw.out.below HB1.out)
  have Hs1 : Hid ((W0.alloc (.cells #[] 54)).heap.size = w.heap.size + 3) := Lib.hid (by simp [hs0])
  subst hW0
  go_enter Try.func11, Try.ntmps11
  go_wp2_with (first
    | (at_builtin
       refine wpList_append_keeps _ rfl (.tmp 104) (.tmp 106) rfl (base := w.heap.size + 2) rfl (Nat.le_refl _) HE1.out aL nL cL l rfl HK1.out HN6.out ?_
       intro g5 c5 w5 hko hb5
       have HKo := Lib.hid hko
       have HB5 : Hid (Below w.heap.size w w5) := Lib.hid (HB1.out.trans (hb5.to_below (by simp) HB1.out.size))
       have HZ5 := Lib.hid (mb_but HZ1.out hb5 (by simp))
       have Hg5 : Hid (w.heap.size + 2 ≤ g5 ∧ w.heap.size + 1 < w5.heap.size) := Lib.hid ⟨hko.bs, by have := hb5.size; have := Hs1.out; omega⟩
       have HL5 := Lib.hid (HLw.out.below HB5.out)
       clear hko hb5))
  clear HXa HZ0 HB0 HK0 HB1 HK1 HZ1 HE1 HL1 Hs1 hs0
  go_loopw [110] (fun js wz => ∃ (j : Nat) (ks : List (Int × Int)), j ≤ nL ∧ js = .int .i64 (j : Int) ∧ Hid (KOwn (w.heap.size + 2) wz g5 nL c5 ks) ∧ Hid (∀ y ∈ ks.take j, y.1 = 0 ∨ y.1 = 1) ∧ Hid (But [g5] w5 wz)) (fun js _ => nL - (intOf js).toNat)
  case atStart => exact ⟨0, _, by omega, rfl, HKo, Lib.hid (by simp), Lib.hid (But.refl _ _)⟩
  case round =>
    obtain ⟨j, ks, hj, rfl, HKj, HAj, HBj⟩ := hrel
    by_cases hjl : j < nL
    · have hjI : (j : Int) < (nL : Int) := by omega
      as_aux_lemma =>
        have hj0 : (0 : Int) ≤ (j : Int) := by omega
        obtain ⟨y, hy⟩ : ∃ y, ks[j]? = some y := ⟨_, List.getElem?_eq_getElem (by rw [HKj.out.ln]; exact hjl)⟩
        have c0 := (HKj.out.cl j y hy).1
        have fz := HKj.out.fz
        obtain ⟨mm, hmm, hband⟩ := and1 y.1
        have HKs := Lib.hid (HKj.out.set hy mm)
        have HMm := Lib.hid hmm
        have HJl := Lib.hid hjl
        have HTk2 : Hid ((ks.set j (mm, y.2)).take (j + 1) = ks.take j ++ [(mm, y.2)]) := Lib.hid (by
          have hjk : j < ks.length := by rw [HKj.out.ln]; exact hjl
          rw [List.take_add_one, List.take_set_of_le (Nat.le_refl _), List.getElem?_set_self hjk]
          rfl)
        clear hjl hj hy hmm
        go_wp2_with fail
        go_roundw
        case rel =>
          refine ⟨j + 1, _, by have := HJl.out; omega, by go_num, HKs, Lib.hid (fun z hz => ?_), Lib.hid (HBj.out.set _ (.inl (by simp)))⟩
          rw [HTk2.out] at hz
          rcases List.mem_append.1 hz with hz | hz
          · exact HAj.out z hz
          · obtain rfl : z = (mm, y.2) := by simpa using hz
            exact HMm.out
        case measure => have := HJl.out; simp [intOf]; omega
    · obtain rfl : j = nL := by omega
      as_aux_lemma =>
        have hjI : ¬ (j : Int) < (j : Int) := by omega
        have hBz := HB5.out.trans (HBj.out.to_below (by simp; have := Hg5.out; omega) HB5.out.size)
        have HBz := Lib.hid hBz
        have R7 := Lib.hid (HLw.out.below hBz)
        have Z7 := Lib.hid (mb_but HZ5.out HBj.out (by have := Hg5.out; simp; omega))
        have hg5 : g5 ∉ [dB, sB, mB] := fun hx => Hge.out g5 (by have := Hg5.out; omega) (by simp at hx; simp [ours]; omega)
        have HCr := Lib.hid (crash_any _ R7.out.ws.dev (some ⟨g5, 0, none⟩) j c5 ks HKj.out.row (.inr (fun b off e => by injection e with e; injection e with e; subst e; exact hg5)))
        have HFc := Lib.hid (R7.out.fi.crash (l := ks) (fun z hz => HAj.out z (by rw [List.take_of_length_le (by rw [HKj.out.ln]; exact Nat.le_refl _)]; exact hz)))
        have q0 := R7.out.lf.cell 0
        simp only [lfC, List.getElem?_toArray, List.getElem?_cons_zero, List.getElem?_cons_succ] at q0
        have Hdb : Hid (gB ∉ [dB, sB, mB] ∧ w.heap.size + 1 ∉ [dB, sB, mB]) := Lib.hid ⟨fun hx => R7.out.gp.2.1 (by simp at hx; simp [ours]; omega), fun hx => Hge.out _ (Nat.le_succ _) (by simp at hx; simp [ours]; omega)⟩
        have Hgd := Lib.hid R7.out.gd
        have Hx0 := Lib.hid (fx_ok c.text).1.1
        clear hjl hj hBz hg5
        go_upto_region 22 with (first
          | (go_at_call 21; with_reducible refine HCr.out.mono ?_; rintro e w8 ⟨rfl, hd8, hb8⟩
             have D8 := Lib.hid hd8
             have B8 := Lib.hid hb8
             have L8 := Lib.hid (R7.out.lf.but hb8 Hdb.out.1)
             have Z8 := Lib.hid (mb_but Z7.out hb8 Hdb.out.2)
             clear hd8 hb8))
        have p0 := L8.out.cell 0
        have p2 := L8.out.cell 2
        simp only [lfC, List.getElem?_toArray, List.getElem?_cons_zero, List.getElem?_cons_succ] at p0 p2
        have HS : Hid (∀ w', Below w8.heap.size w8 w' → w'.cell? ⟨gB, 0, none⟩ = some (.pointer (some ⟨dB, 0, none⟩)) ∧ w'.cell? ⟨gB, 2, none⟩ = some (.int .i64 W)) := Lib.hid fun w' hb => ⟨(L8.out.below hb L8.out.lt).cell 0, (L8.out.below hb L8.out.lt).cell 2⟩
        have HO : Hid (Calls Try.prog 16 #[.pointer (some ⟨dB, 0, none⟩), .int .i64 0, .int .i64 1, .int .i64 W] w8.drew fun e w'' => ∃ tB cB, e = .returned (.tuple #[.pointer (some ⟨tB, 0, none⟩), .int .i64 0]) ∧ w8.drew.heap.size ≤ tB ∧ w8.drew.heap.size ≤ cB ∧ WS w'' dB sB mB 2 (M.crashD 2 d ks) tB cB 0 1 (there (M.crashD 2 d ks) 0 1) W W ∧ Below w8.drew.heap.size w8.drew w'') := Lib.hid (wopen_yes w8.drew (D8.out.but (But.of_below (Below.refl w8.heap.size w8).drew) (by simp) (by simp) (by simp)) rfl (a := 0) (b := 1) (by omega) (W := W) HWt.out)
        have HSd := Lib.hid (HS.out w8.drew (Below.refl w8.heap.size w8).drew)
        go_region_held3 (fun w' => w'.cell? ⟨gB, 0, none⟩ = some (.pointer (some ⟨dB, 0, none⟩)) ∧ w'.cell? ⟨gB, 2, none⟩ = some (.int .i64 W))
          (first
            | with_reducible exact ⟨p0, p2⟩
            | with_reducible exact HSd.out
            | with_reducible exact HS9.out
            | with_reducible exact HS10.out)
          (first
            | (go_at_call 16; with_reducible refine HO.out.mono ?_; rintro e w9 ⟨tB2, cB2, rfl, h1, h2, h3, hb9⟩
               have B9 : Hid (Below w8.heap.size w8 w9) := Lib.hid ((Below.refl w8.heap.size w8).drew.trans hb9)
               have HL9 := Lib.hid (L8.out.below B9.out L8.out.lt)
               have HL10 : Hid (Bo (w9.setCell ⟨gB, 1, none⟩ (.pointer (some ⟨tB2, 0, none⟩))) gB (lfC dB tB2 W pB) 30) := Lib.hid (HL9.out.set 1 _)
               have HS9 := Lib.hid (HS.out _ B9.out)
               have HS10 : Hid ((w9.setCell ⟨gB, 1, none⟩ (.pointer (some ⟨tB2, 0, none⟩))).cell? ⟨gB, 0, none⟩ = some (.pointer (some ⟨dB, 0, none⟩)) ∧ (w9.setCell ⟨gB, 1, none⟩ (.pointer (some ⟨tB2, 0, none⟩))).cell? ⟨gB, 2, none⟩ = some (.int .i64 W)) := Lib.hid ⟨HL10.out.cell 0, HL10.out.cell 2⟩
               have S9 := Lib.hid h3
               have H12 : Hid (w8.heap.size ≤ tB2 ∧ w8.heap.size ≤ cB2) := Lib.hid ⟨h1, h2⟩
               have p1 := HL9.out.cell 1
               have pf := HL9.out.fz 1
               simp only [lfC, List.getElem?_toArray, List.getElem?_cons_zero, List.getElem?_cons_succ] at p1
               clear h1 h2 h3 hb9))
        have r1 := HL10.out.cell 1
        have r4 := HL10.out.cell 4
        have rf := HL10.out.fz 4
        simp only [lfC, List.getElem?_toArray, List.getElem?_cons_zero, List.getElem?_cons_succ] at r1 r4
        have HEnd := Lib.hid (crash_end HLw.out HBz.out B8.out S9.out B9.out H12.out.1 H12.out.2 HFc.out.1 (Hgd.out.suc Hx0.out HFc.out.2.1))
        have Hgm : Hid (gB ≠ w.heap.size + 1) := Lib.hid fun e => Hge.out _ (Nat.le_succ _) (by simp [← e])
        have Z10 : Hid (MB ((w9.setCell ⟨gB, 1, none⟩ (.pointer (some ⟨tB2, 0, none⟩))).setCell ⟨gB, 4, none⟩ (.bool false)) (w.heap.size + 1) Ml.nil) := Lib.hid (mb_but (MB.below Z8.out B9.out Z8.out.lt) (((But.refl [gB] w9).set (p := ⟨gB, 1, none⟩) _ (.inl (by simp))).set (p := ⟨gB, 4, none⟩) _ (.inl (by simp))) (by simpa using Ne.symm Hgm.out))
        go_wp2_with (refine wpList_storeM rfl _ _ rfl (w.heap.size + 1) rfl Ml.nil rfl (mb_there Z10.out) ?_; intro w11 hw11)
        subst hw11
        refine ret_msg4 (m := Ml.nil) (v := .bool false) Try.results11 rfl rfl rfl (Ml.mb_set Z10.out _) ⟨rfl, ?_⟩
        have hsz : w.heap.size ≤ w8.heap.size := Nat.le_trans HBz.out.size B8.out.size
        have h12 := H12.out
        refine ⟨_, tB2, cB2, _, HFc.out.2.1, by omega, by omega, HEnd.out.but ((But.refl [w.heap.size + 1] _).sets (w.heap.size + 1) 0 (Mg.cells Ml.nil).toList (.inl (by simp))) ?_ (by simp)⟩
        simp only [List.mem_singleton]
        rintro x rfl hx
        have h0 := Hge.out _ (Nat.le_succ w.heap.size)
        have hlt : w.heap.size + 1 < w8.heap.size := Z8.out.lt
        simp only [List.mem_cons, mem_ours] at hx h0
        omega

set_option maxHeartbeats 8000000 in
theorem do3 (h : LF w w gB pB dB sB mB d tB cB c L W N E) (x : Ac) (hk : x.kind = 3) (hx : -9223372036854775808 ≤ x.n ∧ x.n ≤ 9223372036854775807) :
    Calls Try.prog 11 #[.pointer (some ⟨gB, 0, none⟩), actV x] w fun e w' => e = .returned (.tuple #[msgV Ml.nil, .bool false]) ∧
      LF w w' gB pB dB sB mB (M.fuseD d x.n) tB cB c L W N E := by
  have hX := do_boxes w x.cells.toArray
  have HL := Lib.hid (h.below hX.2.2)
  have HLw := Lib.hid h
  have Hge := Lib.hid (fun g => @LF.not_mem w w gB pB dB sB mB d tB cB c L W N E h g)
  have HXa := Lib.hid hX.1
  have HZ0 := Lib.hid hX.2.1
  have Hx := Lib.hid hx
  obtain ⟨kind, n, fr, ⟨mk, mep, msq, mn, mb, mc, me, m0, m1, m2, m3, data, row⟩, s, aL, nL, cL, l⟩ := x
  simp only at hk hx Hx
  subst hk
  clear h hX hx
  simp only [actV, Ac.cells, Mg.cells, msgV, Ml.nil] at *
  go_enter Try.func11, Try.ntmps11
  go_upto_region 25 with fail
  generalize (w.alloc (.cells #[.int .i64 3, .int .i64 n, .int .i64 fr, .int .i64 mk, .int .i64 mep, .int .i64 msq, .int .i64 mn, .int .i64 mb, .int .i64 mc, .int .i64 me, .int .i64 m0, .int .i64 m1, .int .i64 m2, .int .i64 m3, .string data, .string row, .string s, .slice aL nL cL] 38)).alloc (.cells #[.int .i64 0, .int .i64 0, .int .i64 0, .int .i64 0, .int .i64 0, .int .i64 0, .int .i64 0, .int .i64 0, .int .i64 0, .int .i64 0, .int .i64 0, .string ⟨#[]⟩, .string ⟨#[]⟩] 35) = W0 at *
  have q0 := HL.out.lf.cell 0
  have y1 := HXa.out.cell 1
  simp only [lfC, List.getElem?_toArray, List.getElem?_cons_zero, List.getElem?_cons_succ] at q0 y1
  have Hdb : Hid (gB ∉ [dB] ∧ w.heap.size ∉ [dB] ∧ w.heap.size + 1 ∉ [dB]) := Lib.hid ⟨fun hx => HL.out.gp.2.1 (by simp at hx; simp [ours, hx]), fun hx => Hge.out _ (Nat.le_refl _) (by simp at hx; simp [ours, ← hx]), fun hx => Hge.out _ (Nat.le_succ _) (by simp at hx; simp [ours, ← hx])⟩
  have HFu := Lib.hid (fuse_any W0.drew (HL.out.below (Below.refl W0.heap.size W0).drew).ws.dev n Hx.out.1 Hx.out.2)
  have HSd : Hid (W0.drew.cell? ⟨gB, 0, none⟩ = some (.pointer (some ⟨dB, 0, none⟩)) ∧ W0.drew.cell? ⟨w.heap.size, 1, none⟩ = some (.int .i64 n)) := Lib.hid ⟨q0, y1⟩
  go_region_held3 (fun w' => w'.cell? ⟨gB, 0, none⟩ = some (.pointer (some ⟨dB, 0, none⟩)) ∧ w'.cell? ⟨w.heap.size, 1, none⟩ = some (.int .i64 n))
    (first
      | with_reducible exact ⟨q0, y1⟩
      | with_reducible exact HSd.out
      | with_reducible exact HS5.out)
    (first
      | (go_at_call 22; with_reducible refine HFu.out.mono ?_; rintro e w5 ⟨rfl, hd5, hb5⟩
         have hb6 : But [dB] W0 w5 := ((But.of_below (Below.refl W0.heap.size W0).drew).mono (by simp)).trans hb5
         have b1 := HL.out.lf.but hb6 Hdb.out.1
         have b2 := HXa.out.but hb6 Hdb.out.2.1
         have Z5 := Lib.hid (mb_but HZ0.out hb6 Hdb.out.2.2)
         have HS5 : Hid (w5.cell? ⟨gB, 0, none⟩ = some (.pointer (some ⟨dB, 0, none⟩)) ∧ w5.cell? ⟨w.heap.size, 1, none⟩ = some (.int .i64 n)) := Lib.hid ⟨b1.cell 0, b2.cell 1⟩
         have HL5 : Hid (LF w w5 gB pB dB sB mB (M.fuseD d n) tB cB c L W N E) := Lib.hid (by
           have h := HL.out
           have ht := h.ws.td
           have hkd := h.ws.kd
           exact ⟨⟨hd5, h.ws.sv.but hb6 (by simp; omega), h.ws.cel.but hb6 (by simp; omega), h.ws.kd, h.ws.td, h.ws.o1, h.ws.gn, h.ws.tx, h.ws.ab, h.ws.wt, h.ws.lf⟩, b1, h.mp.but hb6 (fun hx => h.gp.2.2 (by simp at hx; simp [ours, hx])), h.gp, h.fi.fuse Hx.out, h.gd, but_more h.bu hb6 (fun x hx => .inl (by simp at hx; simp [ours, hx]))⟩)
         clear hd5 hb5 hb6 b1 b2))
  go_wp2_with (refine wpList_storeM rfl _ _ rfl (w.heap.size + 1) rfl Ml.nil rfl (mb_there Z5.out) ?_; intro w11 hw11)
  subst hw11
  refine ret_msg4 (m := Ml.nil) (v := .bool false) Try.results11 rfl rfl rfl (Ml.mb_set Z5.out _) ⟨rfl, ?_⟩
  exact HL5.out.but ((But.refl [w.heap.size + 1] _).sets (w.heap.size + 1) 0 (Mg.cells Ml.nil).toList (.inl (by simp))) (by simp only [List.mem_singleton]; rintro x rfl; exact Hge.out _ (Nat.le_succ _)) (by simp)
end Go.Proofs.Ytpoolpckabpnfaa.Wt
