/-
  What Crash makes of the device in memory.
-/
import Derived.Test.YtpoolpckabpnfaaGreatSDev4
import Derived.Deep.RegionHeldLaw
import Derived.Deep.RegionLaw
import Derived.Deep.DrawnRows
namespace Go.Proofs.YtpoolpckabpnfaaGreat
open Go.RowKit Go.Maps
set_option linter.unusedVariables false
set_option linter.unusedSimpArgs false
set_option maxRecDepth 20000
attribute [local go_sem ↓] Go.wp_at_zero Go.wp_at_succ

variable {dB sB mB n : Nat} {d : M.Dv}

/-- what a crash leaves, as it lies in memory -/
def KRow (w : World) (a : Option Addr) (m c : Nat) (l : List (Int × Int)) : Prop :=
  l.length = m ∧ m ≤ c ∧ c ≤ maxLen ∧ (l = [] ∨ ∃ b off, a = some ⟨b, off, none⟩ ∧ b < w.heap.size ∧ ∀ i x, l[i]? = some x → w.cell? ⟨b, off + i * 2, none⟩ = some (.int .i64 x.1) ∧ w.cell? ⟨b, off + i * 2 + 1, none⟩ = some (.int .i64 x.2))
theorem krow_nil (w : World) : KRow w none 0 0 [] := ⟨rfl, Nat.le_refl _, by simp [maxLen], .inl rfl⟩
theorem krow_but {w w' : World} {l : List Nat} {a : Option Addr} {m c : Nat} {ks : List (Int × Int)} (h : KRow w a m c ks) (hb : But l w w') (hn : ks = [] ∨ ∀ b off, a = some ⟨b, off, none⟩ → b ∉ l) : KRow w' a m c ks := by
  obtain ⟨h1, h2, h3, h4⟩ := h
  refine ⟨h1, h2, h3, ?_⟩
  rcases h4 with h4 | ⟨b, off, ha, hlt, hc⟩
  · exact .inl h4
  · rcases hn with hn | hn
    · exact .inl hn
    · exact .inr ⟨b, off, ha, Nat.lt_of_lt_of_le hlt hb.size, fun i x hi => by rw [hb.cell hlt (hn b off ha), hb.cell hlt (hn b off ha)]; exact hc i x hi⟩
theorem krow_old {w : World} {a : Option Addr} {m c : Nat} {ks : List (Int × Int)} (h : KRow w a m c ks) {l : List Nat} (hl : ∀ x ∈ l, w.heap.size ≤ x) : ks = [] ∨ ∀ b off, a = some ⟨b, off, none⟩ → b ∉ l := by
  obtain ⟨h1, h2, h3, h4⟩ := h
  rcases h4 with h4 | ⟨b, off, rfl, hlt, hc⟩
  · exact .inl h4
  · refine .inr fun b' off' e hm => ?_
    injection e with e
    injection e with e1 e2
    have := hl _ hm
    omega

/-- a row of the call's own, from block B on, as a row that is read -/
theorem own_row {e : TypeId} {w : World} {B : Nat} {v : Value} {n : Nat} {vs : List Value} (h : w.ownsRow B e 1 v n vs) (hl : vs.length = n) : ∃ a cap, v = .slice a n cap ∧ Row w a n cap vs ∧ ∀ b off, a = some ⟨b, off, none⟩ → B ≤ b ∧ off = 0 := by
  rcases h.2 with ⟨rfl, h'⟩ | ⟨g, c, cur, rfl, hB, hh, hn, hm, hs, ht⟩
  · subst h'
    exact ⟨none, 0, rfl, ⟨hl, Nat.le_refl _, by simp [maxLen], .inl (List.eq_nil_of_length_eq_zero hl)⟩, by simp⟩
  · refine ⟨some ⟨g, 0, none⟩, c, rfl, ⟨hl, hn, hm, .inr ⟨g, 0, rfl, (h.lt g rfl).2, fun i hi => ?_⟩⟩, fun b off hb => ?_⟩
    · rw [Nat.zero_add]; exact World.ownsRow.cellAt h i (by omega)
    · injection hb with hb
      injection hb with hb1 hb2
      omega

theorem step_copy_row {ops : Array Oper} {o : Oper} {a : Act} {w : World} {K : Act → World → Prop} {Q : Exit → Act → World → Prop} {E : Prop}
    (hg : o.guard = none) (x y : Operand) (ho : o.op = Op.call { callee := Callee.builtin Builtin.copy, args := #[x, y], argTypes := #[50, 50] })
    (b off n c : Nat) (hx : a.eval x = .slice (some ⟨b, off, none⟩) n c) (A : Option Addr) (m cc : Nat) (hy : a.eval y = .slice A m cc) (l : List UInt8) (hr : Row w A m cc (u8s l)) (hm : m ≤ n) (ht : w.there b off n)
    (h : K (a.put o.dst (.int .i64 m)) (w.setCells b off (u8s l))) : if Region.wanted o (yielded ops a.tmps) = true then Oper.wp Tryz.prog o a w K Q else E := by
  have hw : Region.wanted o (yielded ops a.tmps) = true := by simp [Region.wanted, hg]
  rw [if_pos hw]
  obtain ⟨h1, h2, h3, h4⟩ := hr
  have hrun : ∀ ty, (Builtin.copy_ #[50, 50] ty #[.slice (some ⟨b, off, none⟩) n c, .slice A m cc]).run Tryz.prog w = .ok (.int .i64 m) (w.setCells b off (u8s l)) := by
    intro ty
    have hi : (Tryz.prog.info? 5).map (·.size) = some 1 := by kernel_rfl
    rcases h4 with h4 | ⟨b', off', rfl, hlt, hc⟩
    · have h0 : m = 0 := by rw [← h1, h4]; rfl
      subst h0
      rw [h4, run_copy_none (P := Tryz.prog) w 50 50 ty 5 _ _ _ _ _ _ Tryz.underlying50 hi (by simp)]
      simp [goInt, World.setCells]
    · rw [run_copy_cells (P := Tryz.prog) w 50 50 ty 5 b off n c ⟨b', off', none⟩ m cc (u8s l) Tryz.underlying50 hi (by rw [h1]; exact (Nat.min_eq_left hm).symm)
        (fun j v hv => by
          have hj : j < m := by have := (List.getElem?_eq_some_iff.1 hv).1; omega
          rw [Addr.add_mid, hc j hj, hv])
        (fun j hj => (ht j (by omega)).1) (fun j hj => (ht j (by omega)).2) (u8s_one l), h1]
      simp [goInt]
  unfold Oper.wp
  simp [execOp, ho, resolve, invoke, builtin, hx, hy, hrun, Result.andThen]
  exact h

/-- since the region began only new blocks were made, and block b written -/
def KB (b : Nat) (w0 : World) (w : World) : Prop := But [b] w0 w

theorem crash_src {w4 w5 : World} {H q : Nat} {s : M.Sec} (hr : w4.rangeAt H 0 (u8s s)) (hkb : But [] w4 w5) (hlt : H < w4.heap.size) (hq : q ≤ 144) (hsl : s.length = 144) : Row w5 (some ⟨H, 0, none⟩) q 144 (u8s (s.take q)) := by
  have h1 := rangeAt_block hr (hkb.block H hlt (by simp))
  have h2 := row_range h1 (Nat.lt_of_lt_of_le hlt hkb.size) (cap := 144) (by rw [u8s_length]; omega) (by simp [maxLen])
  have h3 := row_take h2 (k := q) (by rw [u8s_length]; omega)
  unfold u8s at h3 ⊢
  rw [← List.map_take] at h3
  exact h3
theorem crash_dst {w4 w5 : World} (hd : DevAt w4 dB sB mB n d) (hkb : But [] w4 w5) {j : Nat} (hj : j < n) : w5.there sB (j * 144) 144 := fun k hk => by
  have h1 := there_block hd.there (hkb.block sB hd.lt (by simp)) (j * 144 + k) (by have : (j + 1) * 144 ≤ n * 144 := Nat.mul_le_mul_right _ hj; omega)
  simpa using h1

set_option maxHeartbeats 2000000 in
theorem crash_any (w : World) (h : DevAt w dB sB mB n d) (aK : Option Addr) (mK cK : Nat) (ks : List (Int × Int)) (hk : KRow w aK mK cK ks) (hnb : ks = [] ∨ ∀ b off, aK = some ⟨b, off, none⟩ → b ∉ [dB, sB, mB]) :
    Calls Tryz.prog 14 #[.pointer (some ⟨dB, 0, none⟩), .slice aK mK cK] w fun e w' => e = .returned (.tuple #[]) ∧ DevAt w' dB sB mB n (M.crashD n d ks) ∧ But [dB, sB, mB] w w' := by
  have HD := Lib.hid h
  have HK := Lib.hid hk
  have HP := Lib.hid (pending_any w h)
  have HL : Hid ((M.pendL n d.P).length ≤ 512) := Lib.hid (Nat.le_trans (M.pendL_len n d.P) h.n512)
  have HM : Hid (∀ k, k ∈ M.pendL n d.P → ∃ j : Nat, k = (j : Int) ∧ j < n ∧ (d.P k).isSome = true) := Lib.hid (fun k hk => by
    have hs := (M.mem_pendL (n := n) (P := d.P) (fun k s hk => ⟨(h.wf.pend k s hk).1, (h.wf.pend k s hk).2.1⟩) k).1 hk
    obtain ⟨s, hs'⟩ := Option.isSome_iff_exists.1 hs
    have := h.wf.pend k s hs'
    exact ⟨k.toNat, by omega, by omega, hs⟩)
  unfold M.crashD
  generalize hpl : M.pendL n d.P = pl at HP HL HM ⊢
  have Hpl := Lib.hid hpl
  clear hpl h hk
  go_enter Tryz.func14, Tryz.ntmps14
  go_wp2_with (go_at_call 42
               refine HP.out.mono ?_
               rintro e w1 ⟨v, rfl, hrow, hb1⟩
               obtain ⟨aP, cP, rfl, hr1, hab⟩ := own_row hrow (by simp [ints])
               have HR1 := Lib.hid hr1
               have HB1 : Hid (But [dB, sB, mB] w w1) := Lib.hid ((But.refl _ _).below hb1 (Nat.le_refl _))
               have HD1 := Lib.hid (HD.out.but ((But.refl [] _).below hb1 (Nat.le_refl _)) (by simp) (by simp) (by simp))
               have HK1 := Lib.hid (krow_but HK.out ((But.refl [] _).below hb1 (Nat.le_refl _)) (.inr (by simp)))
               have HAB : Hid (∀ b off, aP = some ⟨b, off, none⟩ → b ≠ dB ∧ b ≠ sB ∧ b ≠ mB) := Lib.hid (fun b off e => by have := (hab b off e).1; have := HD.out.ltD; have := HD.out.lt; have := HD.out.pend.lt; omega)
               clear hrow hb1 hr1 hab)
  go_loopw [4, 5, 6, 10] (fun _ _ _ i wr => ∃ (k : Nat) (S : Nat → M.Sec), k ≤ pl.length ∧ k ≤ ks.length ∧ i = .int .i64 k ∧ DevAt wr dB sB mB n { d with S := S } ∧ But [dB, sB, mB] w1 wr ∧ But [dB, sB, mB] w wr ∧ M.crashS d.P S (pl.drop k) (ks.drop k) = M.crashS d.P d.S pl ks)
    (fun _ _ _ i _ => pl.length - (intOf i).toNat)
  case atStart => exact ⟨0, d.S, Nat.zero_le _, Nat.zero_le _, rfl, HD1.out, But.refl _ _, HB1.out, rfl⟩
  case round =>
    obtain ⟨k, S, hk, hkm, rfl, hdv, hbw, hb0, hS⟩ := hrel
    have HDv := Lib.hid hdv
    have HBw := Lib.hid hbw
    have HS := Lib.hid hS
    have HB0 := Lib.hid hb0
    have Hk := Lib.hid hk
    have Hkm := Lib.hid hkm
    have hml : mK = ks.length := HK.out.1.symm
    have Hml := Lib.hid hml
    have hkmI : (k : Int) ≤ (mK : Int) := by omega
    have HRS := Lib.hid (restart_any wr HDv.out)
    clear hml hkm
    clear hdv hbw hS hb0
    have hk0 : (0 : Int) ≤ (k : Int) := by omega
    have hk512 : (k : Int) ≤ 512 := by have := HL.out; omega
    by_cases hend : k = pl.length
    · have hge : ¬ ((k : Int) < (pl.length : Int)) := by omega
      have HE : Hid (S = M.crashS d.P d.S pl ks) := by
        have := HS.out
        rw [hend, List.drop_length] at this
        show S = _
        rw [← this]
        simp [M.crashS]
      clear hend hk
      go_wp2_with (go_at_call 44; refine HRS.out.mono ?_; rintro e w2 ⟨rfl, hd2, hb2⟩; have HD2 := Lib.hid hd2; have HB2 := Lib.hid hb2; clear hd2 hb2)
      go_end0
      refine ⟨rfl, ?_, HB0.out.trans (HB2.out.mono (by simp))⟩
      rw [← HE.out]
      exact HD2.out
    · have hlt : (k : Int) < (pl.length : Int) := by omega
      have hlen : (ints pl).length = pl.length := by simp [ints]
      have hkl : k < pl.length := by omega
      obtain ⟨j, hj, hjn, hjs⟩ := HM.out pl[k] (List.getElem_mem hkl)
      have hRow := row_but HR1.out HBw.out (.inr fun b off e => by have := HAB.out b off e; simpa using this)
      obtain ⟨bP, oP, rfl, hcP⟩ : ∃ bP oP, aP = some ⟨bP, oP, none⟩ ∧ wr.cell? ⟨bP, oP + k, none⟩ = some (.int .i64 (j : Int)) := by
        rcases hRow.2.2.2 with h0 | ⟨b, off, e, hb, hc⟩
        · rw [h0] at hlen; simp at hlen; omega
        · refine ⟨b, off, e, ?_⟩
          rw [hc k hkl]
          simp [ints, hkl, hj]
      clear hRow hlen
      have Hj := Lib.hid (And.intro hj (And.intro hjn hjs))
      clear hj hjs hend hk
      by_cases hbr : k = mK
      · have hbrI : (k : Int) = (mK : Int) := by omega
        have HE : Hid (S = M.crashS d.P d.S pl ks) := by
          have := HS.out
          rw [show ks.drop k = [] from List.drop_of_length_le (by have := Hml.out; omega)] at this
          show S = _
          rw [← this]
          cases pl.drop k <;> simp [M.crashS]
        have hbeq : ((k : Int) == (mK : Int)) = true := by simpa using hbrI
        clear hbr hbrI
        go_wp2_with (go_at_call 44; refine HRS.out.mono ?_; rintro e w2 ⟨rfl, hd2, hb2⟩; have HD2 := Lib.hid hd2; have HB2 := Lib.hid hb2; clear hd2 hb2)
        go_end0
        refine ⟨rfl, ?_, HB0.out.trans (HB2.out.mono (by simp))⟩
        rw [← HE.out]
        exact HD2.out
      · have hbeq : ((k : Int) == (mK : Int)) = false := by
          have : ¬ ((k : Int) = (mK : Int)) := by omega
          simpa using this
        have hkm : (k : Int) < (mK : Int) := by omega
        obtain ⟨s, hs⟩ := Option.isSome_iff_exists.1 Hj.out.2.2
        have hs : d.P (j : Int) = some s := by rw [← Hj.out.1]; exact hs
        have hsl : s.length = 144 := (HD.out.wf.pend _ _ hs).2.2
        have hn512 := HDv.out.n512
        have hlk0 := (mapis_look HDv.out.pend (i := (j : Int)) (by omega) (by omega)).2
        have hlk : (Instr.lookup 60 (.map (some mB)) (.int .i64 (j : Int)) false).run Tryz.prog wr = .ok (.agg (u8s s).toArray) wr := by
          have e : ({ d with S := S } : M.Dv).P (j : Int) = some s := hs
          rw [e] at hlk0
          exact hlk0
        clear hlk0
        have hmap := HDv.out.map
        obtain ⟨x, hx⟩ : ∃ x, ks[k]? = some x := ⟨ks[k]'(by have := Hml.out; omega), List.getElem?_eq_getElem _⟩
        obtain ⟨bK, oK, rfl, hKs, hKlt, hKc⟩ : ∃ bK oK, aK = some ⟨bK, oK, none⟩ ∧ bK ≠ sB ∧ bK < wr.heap.size ∧ (wr.cell? ⟨bK, oK + k * 2, none⟩ = some (.int .i64 x.1) ∧ wr.cell? ⟨bK, oK + k * 2 + 1, none⟩ = some (.int .i64 x.2)) := by
          have hK1 := krow_but HK1.out HBw.out hnb
          rcases hK1.2.2.2 with h0 | ⟨b, off, e, hb, hc⟩
          · subst h0; simp at hx
          · rcases hnb with h0 | hn
            · subst h0; simp at hx
            · exact ⟨b, off, e, by have := hn b off e; simp at this; omega, hb, hc k x hx⟩
        have HX := Lib.hid (And.intro hs (And.intro hsl (And.intro hx (And.intro hKlt hKc))))
        clear hbr hs hsl hx hKlt hKc
        go_wp2_with (first
          | (refine wpList_alloc_sec rfl rfl ?_; intro w3 hw3
             obtain ⟨g1, g2, g3, g4⟩ := sec_new wr hw3
             have Hg := Lib.hid (And.intro g1 (And.intro g2 (And.intro g3 (g4 [wr.heap.size]))))
             clear hw3 g1 g2 g3 g4)
          | (refine wpList_store_sec rfl (.tmp 6) (.tmp 24) rfl wr.heap.size 0 rfl s rfl HX.out.2.1 Hg.out.2.1 ?_
             have hb4 := Hg.out.2.2.2.sets wr.heap.size 0 (u8s s) (.inl (by simp))
             have HRow := Lib.hid (World.rangeAt_setCells_same w3 wr.heap.size 0 (u8s s) (by rw [u8s_length, HX.out.2.1]; exact Hg.out.2.1))
             have HD4 := Lib.hid (HDv.out.but hb4 (by have := HDv.out.ltD; simp; omega) (by have := HDv.out.lt; simp; omega) (by have := HDv.out.pend.lt; simp; omega))
             have HB4 : Hid (But [dB, sB, mB] wr (w3.setCells wr.heap.size 0 (u8s s))) := Lib.hid ((But.refl _ _).trans' hb4 (Nat.le_refl _))
             have hk1 := (hb4.cell HX.out.2.2.2.1 (o := oK + k * 2) (by have := HX.out.2.2.2.1; simp; omega)).trans HX.out.2.2.2.2.1
             have hk2 := (hb4.cell HX.out.2.2.2.1 (o := oK + k * 2 + 1) (by have := HX.out.2.2.2.1; simp; omega)).trans HX.out.2.2.2.2.2
             have HZ := Lib.hid (show (w3.setCells wr.heap.size 0 (u8s s)).heap.size = wr.heap.size + 1 by rw [size_setCells]; exact Hg.out.2.2.1)
             clear hb4
             generalize w3.setCells wr.heap.size 0 (u8s s) = w4 at *))
        have hsec4 := HD4.out.sec
        have hj0 : (0 : Int) ≤ (j : Int) := by omega
        have hj1 : (j : Int) < (n : Int) := by omega
        have hq0 : (0 : Int) ≤ ((M.keptN x.1 x.2 : Nat) : Int) := by omega
        have hq1 : ((M.keptN x.1 x.2 : Nat) : Int) ≤ 144 := by have := M.keptN_le x.1 x.2; omega
        have HKS : Hid (∀ w', KB sB w4 w' → (w'.cell? ⟨dB, 0, none⟩ = some (.slice (some ⟨sB, 0, none⟩) n n) ∧ w'.cell? ⟨bK, oK + k * 2, none⟩ = some (.int .i64 x.1) ∧ w'.cell? ⟨bK, oK + k * 2 + 1, none⟩ = some (.int .i64 x.2) ∧ KB sB w4 w')) := Lib.hid (fun w' hkb =>
          ⟨(But.cell hkb HD4.out.ltD (by have := HD4.out.ds; simpa using this)).trans hsec4, (But.cell hkb (by have := HX.out.2.2.2.1; have := HZ.out; omega) (by simpa using hKs)).trans hk1, (But.cell hkb (by have := HX.out.2.2.2.1; have := HZ.out; omega) (by simpa using hKs)).trans hk2, hkb⟩)
        have HH : Hid (wr.heap.size < w4.heap.size) := Lib.hid (by have := HZ.out; omega)
        go_region_held_law (fun w' => w'.cell? ⟨dB, 0, none⟩ = some (.slice (some ⟨sB, 0, none⟩) n n) ∧ w'.cell? ⟨bK, oK + k * 2, none⟩ = some (.int .i64 x.1) ∧ w'.cell? ⟨bK, oK + k * 2 + 1, none⟩ = some (.int .i64 x.2) ∧ KB sB w4 w')
          (first
            | exact HKS.out _ (But.refl _ _)
            | exact HKS.out _ (But.drew (But.refl _ _))
            | exact HKS.out _ (But.below (But.drew (But.refl _ _)) hb5 (Nat.le_refl _))
            | exact HKS.out _ (But.sets (But.below (But.drew (But.refl _ _)) hb5 (Nat.le_refl _)) _ _ _ (Or.inl (by simp))))
          ((first
            | (refine step_copy_row (by rfl) (.tmp 31) (.tmp 37) (by rfl) sB (j * 144) 144 144 (by rfl) (some ⟨wr.heap.size, 0, none⟩) (M.keptN x.1 x.2) 144 (by rfl) (s.take (M.keptN x.1 x.2)) (crash_src HRow.out (But.below (But.drew (But.refl _ _)) hb5 (Nat.le_refl _)) HH.out (M.keptN_le _ _) HX.out.2.1) (M.keptN_le _ _) (crash_dst HD4.out (But.below (But.drew (But.refl _ _)) hb5 (Nat.le_refl _)) Hj.out.2.1) ?_)
            | (refine (kept_any _ x.1 x.2).mono ?_; rintro e w5 ⟨rfl, hb5⟩)))
        have hbut := But.below (But.drew (But.refl [] w4)) hb5 (Nat.le_refl _)
        have HD6 := Lib.hid ((HD4.out.but hbut (by simp) (by simp) (by simp)).setSec Hj.out.2.1 (l := s.take (M.keptN x.1 x.2)) (by rw [List.length_take, HX.out.2.1]; omega))
        have HB6 : Hid (But [dB, sB, mB] wr (w5.setCells sB (j * 144) (u8s (s.take (M.keptN x.1 x.2))))) := Lib.hid ((HB4.out.trans (hbut.mono (by simp))).sets _ _ _ (.inl (by simp)))
        have HN : Hid (M.crashS d.P (fun i => if (i : Int) = pl[k] then M.mix ((d.P pl[k]).getD (S i)) (S i) (M.keptN x.1 x.2) else S i) (pl.drop (k + 1)) (ks.drop (k + 1)) = M.crashS d.P d.S pl ks) := by
          have h1 := HS.out
          have hkk : k < ks.length := (List.getElem?_eq_some_iff.1 HX.out.2.2.1).1
          have hxx : ks[k] = x := (List.getElem?_eq_some_iff.1 HX.out.2.2.1).2
          rw [List.drop_eq_getElem_cons hkl, List.drop_eq_getElem_cons hkk, hxx] at h1
          simp only [M.crashS] at h1
          exact h1
        have hkk : k < ks.length := (List.getElem?_eq_some_iff.1 HX.out.2.2.1).1
        have HKK := Lib.hid hkk
        have HW := Lib.hid HDv.out.wf
        clear hbut hb5 hkk
        generalize w5.setCells sB (j * 144) (u8s (s.take (M.keptN x.1 x.2))) = w6 at *
        go_wp2
        go_roundw
        case rel =>
          refine ⟨k + 1, _, by omega, by have := HKK.out; omega, by go_num, HD6.out.same (d' := { d with S := fun i => if (i : Int) = pl[k] then M.mix ((d.P pl[k]).getD (S i)) (S i) (M.keptN x.1 x.2) else S i }) (fun i => ?_) (fun _ => rfl) rfl rfl, HBw.out.trans HB6.out, HB0.out.trans HB6.out, HN.out⟩
          show (if i = j then s.take (M.keptN x.1 x.2) ++ (S i).drop (s.take (M.keptN x.1 x.2)).length else S i) = (if (i : Int) = pl[k] then M.mix ((d.P pl[k]).getD (S i)) (S i) (M.keptN x.1 x.2) else S i)
          rw [Hj.out.1]
          by_cases e : i = j
          · subst e
            rw [if_pos rfl, if_pos rfl, HX.out.1]
            unfold M.mix
            rw [Option.getD_some, List.length_take, HX.out.2.1, Nat.min_eq_left (M.keptN_le _ _)]
          · rw [if_neg e, if_neg (by omega)]
        case measure => simp [intOf]; omega
end Go.Proofs.YtpoolpckabpnfaaGreat
