/-
  What Open finds in the ring.
-/
import Derived.Test.YtmcalgnpinolmaaGreatLog6
namespace Go.Proofs.YtmcalgnpinolmaaGreat
open Go.RowKit
set_option linter.unusedVariables false
set_option linter.unusedSimpArgs false
set_option maxRecDepth 20000

variable {dB sB mB n : Nat} {d : M.Dv} {lB rb first N : Nat} {cv : Value}

theorem find_step (S : Nat → List UInt8) (first n : Nat) (T : Int) (f : Nat) (k least : Int) (hk : 1 ≤ k) :
    M.findL S first n T (f + 1) k least = if (M.rdQ (S (M.place first n k))).1 = k ∧ least ≤ (M.rdQ (S (M.place first n k))).2.time ∧ (M.rdQ (S (M.place first n k))).2.time ≤ T then (M.rdQ (S (M.place first n k))).2 :: M.findL S first n T f (k + 1) (M.rdQ (S (M.place first n k))).2.time else [] := by
  rw [M.findL]
  unfold M.rdQ
  cases hr : M.rdL (S (M.place first n k)) with
  | none =>
    simp only [Option.getD_none]
    rw [if_neg (by rintro ⟨h, _⟩; omega)]
  | some x => obtain ⟨k', r⟩ := x; rfl

/-- how far the search has come -/
structure Fnd (w wr : World) (lB dB first N : Nat) (cv : Value) (h t l : Int) (S : Nat → List UInt8) (k : Nat) (ls : Int) (rs : List M.Rl) (ra : Option Addr) (cap : Nat) : Prop where
  lc : LogC wr lB dB first N cv h t l (.slice ra k cap)
  ow : OwnR wr ra cap rs
  ln : rs.length = k
  bt : But [lB] w wr
  fr : ra = none ∨ w.heap.size ≤ blk lB ra
  is : M.findL S first N t N h l = rs ++ M.findL S first N t (N - k) (h + k) ls

theorem Fnd.end {w wr : World} {h t l : Int} {S : Nat → List UInt8} {k : Nat} {ls : Int} {rs : List M.Rl} {ra : Option Addr} {cap : Nat} (F : Fnd w wr lB dB first N cv h t l S k ls rs ra cap) (hlt : lB < w.heap.size) (he : M.findL S first N t (N - k) (h + k) ls = []) {w' : World} (hb : But [] wr w') :
    ∃ rb', LogAt w' lB rb' dB first N cv ⟨h, t, l, M.findL S first N t N h l⟩ ∧ (rb' = lB ∨ w.heap.size ≤ rb') ∧ But [lB] w w' := by
  have e := F.is
  rw [he, List.append_nil] at e
  refine ⟨blk lB ra, ⟨ra, cap, ?_, ?_, rfl, ?_⟩, ?_, F.bt.trans (hb.mono (by simp))⟩
  · simp only [e, F.ln]; exact F.lc.but hb (by simp)
  · simp only [e]; exact F.ow.of_block (lB := lB) (hb.block _ (F.ow.lt F.lc.lt) (by simp))
  · rcases F.fr with z | z
    · exact .inl z
    · exact .inr (by omega)
  · rcases F.fr with z | z
    · left; subst z; rfl
    · exact .inr z

set_option maxHeartbeats 8000000 in
theorem find_any (w : World) (hd : DevAt w dB sB mB n d) (hdead : d.dead = false) (h t l : Int) (g : LogC w lB dB first N cv h t l (.slice none 0 0)) (hl : lB ≠ dB ∧ lB ≠ sB ∧ lB ≠ mB)
    (hfn : first + N ≤ n) (hN : 1 ≤ N ∧ N ≤ 999) (hh : 1 ≤ h ∧ h ≤ 4611686018427380000) (hi : M.InT h t l) :
    Calls Tryz.prog 61 #[.pointer (some ⟨lB, 0, none⟩)] w fun e w' => e = .returned (.int .i64 0) ∧
      ∃ rb', LogAt w' lB rb' dB first N cv ⟨h, t, l, M.findL (M.seen d) first N t N h l⟩ ∧ (rb' = lB ∨ w.heap.size ≤ rb') ∧ But [lB] w w' := by
  have hn := hd.n512
  have p2 := g.p2
  have p6 := g.p6
  have HG := Lib.hid g
  have HD := Lib.hid hd
  have Hl := Lib.hid hl
  have Hh := Lib.hid hh
  have Hi := Lib.hid hi
  have HN := Lib.hid hN
  have Hfn := Lib.hid hfn
  have Hn := Lib.hid hn
  have HR : Hid (∀ i, i < n → M.reach n d (i : Int) = 0) := Lib.hid fun i hi => by
    unfold M.reach; rw [hdead, if_neg (by simp), if_neg (by omega)]
  have H0 : Hid (Fnd w w lB dB first N cv h t l (M.seen d) 0 l [] none 0) := Lib.hid ⟨g, OwnR.nil w, rfl, But.refl _ _, .inl rfl, by simp⟩
  have Hlt := Lib.hid g.lt
  generalize hS : M.seen d = S at *
  have HS := Lib.hid hS
  clear hS
  clear g hd hl hh hi hN hfn hdead hn
  go_enter Tryz.func61, Tryz.ntmps61
  go_wp2_with fail
  go_step3
  go_wp2_with fail
  go_step3
  go_wp2_with fail
  go_loopw [3, 17] (fun s i wr => ∃ (k : Nat) (ls : Int) (rs : List M.Rl) (ra : Option Addr) (cap : Nat), k ≤ N ∧ s = .int .i64 ls ∧ i = .int .i64 k ∧ Fnd w wr lB dB first N cv h t l S k ls rs ra cap) (fun _ i _ => N - (intOf i).toNat)
  case atStart => exact ⟨0, l, [], none, 0, by omega, rfl, rfl, H0.out⟩
  case round =>
    obtain ⟨k, ls, rs, ra, cap, hk, rfl, rfl, F⟩ := hrel
    have HF := Lib.hid F
    clear F
    by_cases hlt : k < N
    · have hltI : (k : Int) < (N : Int) := by omega
      have hk1 : (k : Int) ≤ 1000 := by have := HN.out; omega
      have hk0 : (0 : Int) ≤ (k : Int) := by omega
      have p0 := HF.out.lc.p0
      have HLk := Lib.hid HF.out.lc
      -- each world of the reading
      have hP : ∀ w', Below wr.heap.size wr w' → LogC w' lB dB first N cv h t l (.slice ra k cap) ∧ OwnR w' ra cap rs ∧ DevAt w' dB sB mB n d ∧ But [] wr w' ∧ w'.cell? ⟨lB, 0, none⟩ = some (.pointer (some ⟨dB, 0, none⟩)) := fun w' hb => by
        have hbt := But.of_below hb
        have gg := HF.out.lc.but hbt (by simp)
        exact ⟨gg, HF.out.ow.of_block (lB := lB) (hbt.block _ (HF.out.ow.lt HF.out.lc.lt) (by simp)), (HD.out.but HF.out.bt (by have := Hl.out; simp; omega) (by have := Hl.out; simp; omega) (by have := Hl.out; simp; omega)).but hbt (by simp) (by simp) (by simp), hbt, gg.p0⟩
      obtain ⟨pl, hpl⟩ : ∃ pl, M.place first N (h + k) = pl := ⟨_, rfl⟩
      have hpn : pl < n := by
        obtain ⟨p, hp, hq⟩ := M.place_lt (first := first) (show 0 < N by have := HN.out; omega) (h + k)
        have := Hfn.out
        omega
      have CT : Hid (∀ w', Below wr.heap.size wr w' → Calls Tryz.prog 86 #[.pointer (some ⟨lB, 0, none⟩)] w' fun e w'' => e = .returned (.int .i64 (h + k)) ∧ Below wr.heap.size wr w'' ∧ Below w'.heap.size w' w'') := Lib.hid fun w' hb => by
        refine (tail_any w' (hP w' hb).1 ⟨by have := Hh.out; omega, by have := Hh.out; omega⟩ (by have := HN.out; omega)).mono ?_
        rintro e w'' ⟨rfl, j, rfl⟩
        exact ⟨rfl, below_dn hb j, below_dn (Below.refl _ _) j⟩
      have CP : Hid (∀ w', Below wr.heap.size wr w' → Calls Tryz.prog 85 #[.pointer (some ⟨lB, 0, none⟩), .int .i64 (h + k)] w' fun e w'' => e = .returned (.int .i64 (pl : Int)) ∧ Below wr.heap.size wr w'') := Lib.hid fun w' hb => by
        rw [← hpl]
        refine (place_any w' (hP w' hb).1 (by have := Hfn.out; have := Hn.out; omega) (by have := HN.out; omega) HN.out.1 (h + k) ⟨by have := Hh.out; omega, by have := Hh.out; omega⟩).mono ?_
        rintro e w'' ⟨rfl, j, rfl⟩
        exact ⟨rfl, below_dn hb j⟩
      have CR : Hid (∀ w', Below wr.heap.size wr w' → Calls Tryz.prog 82 #[.pointer (some ⟨dB, 0, none⟩), .int .i64 (pl : Int)] w' fun e w'' => ∃ bR, e = .returned (.tuple #[.slice (some ⟨bR, 0, none⟩) 144 144, .int .i64 0]) ∧ Row w'' (some ⟨bR, 0, none⟩) 144 144 (u8s (S pl)) ∧ Below wr.heap.size wr w'') := Lib.hid fun w' hb => by
        have hdv := (hP w' hb).2.2.1
        refine (read_yes w' hdv pl (HR.out pl hpn)).mono ?_
        rintro e w'' ⟨bR, rfl, hbR, hltR, hrg, _, hb1⟩
        refine ⟨bR, rfl, ?_, hb.trans (hb1.mono hb.size)⟩
        have := row_range (cap := 144) hrg hltR (by rw [u8s_length, seen_len hdv.wf]; omega) (by simp [maxLen])
        rw [u8s_length, seen_len hdv.wf] at this
        rw [← HS.out]
        exact this
      have HP := Lib.hid hP
      have CTz := Lib.hid (CT.out _ ((Below.refl _ _).drew))
      have K0 := Lib.hid (hP _ ((Below.refl _ _).drew)).2.2.2.2
      clear hP hpn
      have HPl := Lib.hid hpl
      clear hpl
      go_wp2_with fail
      go_region_held3 (fun w' => w'.cell? ⟨lB, 0, none⟩ = some (.pointer (some ⟨dB, 0, none⟩)))
        (first
          | exact K0.out
          | exact (HP.out _ hqr).2.2.2.2
          | exact (HP.out _ hqp).2.2.2.2
          | exact (HP.out _ hqt).2.2.2.2)
        (first
          | (go_at_call 86; with_reducible refine CTz.out.mono ?_; rintro e wt ⟨rfl, hqt, _⟩)
          | (go_at_call 85; with_reducible refine (CP.out _ hqt).mono ?_; rintro e wp ⟨rfl, hqp⟩)
          | (go_at_call 82; with_reducible refine (CR.out _ hqp).mono ?_; rintro e w1 ⟨bR, rfl, hrow, hqr⟩))
      have HRr := Lib.hid (rr_any w1 bR 0 144 144 (S pl) hrow (by omega) (by omega))
      have HQ := Lib.hid hqr
      have hfs := find_step S first N t (N - k - 1) (h + k) ls (by have := Hh.out; omega)
      rw [HPl.out, show N - k - 1 + 1 = N - k by omega] at hfs
      have HFs := Lib.hid hfs
      clear hfs
      have HIn := Lib.hid (show ∀ x, M.rdQ (S pl) = x → (x.1 ≠ 0 → M.MayL x.1 x.2) from fun x hx hne => by
        subst hx
        unfold M.rdQ at hne ⊢
        cases hr : M.rdL (S pl) with
        | none => rw [hr] at hne; exact absurd rfl hne
        | some y => exact M.rdL_may hr)
      generalize M.rdQ (S pl) = pq at *
      obtain ⟨kq, tq, sq⟩ := pq
      simp only at HRr HFs
      clear hrow hqr hqp hqt K0 CTz CP CR
      have HKn := Lib.hid hlt
      clear hlt
      by_cases c1 : kq = h + k
      · have hc1 : (kq != h + (k : Int)) = false := by simpa using c1
        have C1 := Lib.hid c1
        clear c1
        by_cases c2 : ls ≤ tq
        · have hc2 : decide (tq < ls) = false := by simp; omega
          have C2 := Lib.hid c2
          clear c2
          by_cases c3 : tq ≤ t
          · have hc3 : decide (t < tq) = false := by simp; omega
            have C3 := Lib.hid c3
            clear c3
            go_wp2_with (first
              | (go_at_call 87; with_reducible refine HRr.out.mono ?_; rintro e w2 ⟨rfl, hb2⟩
                 have HB2 := Lib.hid (HQ.out.trans (hb2.mono HQ.out.size))
                 clear hb2)
              | (go_at_call 86; with_reducible refine (CT.out _ (HB2.out.alloc HB2.out.size _)).mono ?_; rintro e w3 ⟨rfl, hb3, hx3⟩
                 have HB3 := Lib.hid hb3
                 have HLr := Lib.hid (HP.out _ hb3)
                 have r0 : w3.cell? ⟨w2.heap.size, 0, none⟩ = some (.int .i64 tq) := by rw [hx3.cell (p := ⟨w2.heap.size, 0, none⟩) (by simp), World.cell?_alloc_mark]; rfl
                 have r1 : w3.cell? ⟨w2.heap.size, 1, none⟩ = some (.string sq) := by rw [hx3.cell (p := ⟨w2.heap.size, 1, none⟩) (by simp), World.cell?_alloc_mark]; rfl
                 have p5 := HLr.out.1.p5
                 clear hb3 hx3))
            go_quiet (fail)
            have HLg := Lib.hid (HLr.out.1.of_block (w' := w3.drewN nq) rfl)
            have HOg := Lib.hid (HLr.out.2.1.of_block (w' := w3.drewN nq) (lB := lB) rfl)
            have HBg : Hid (But [] wr (w3.drewN nq)) := Lib.hid (HLr.out.2.2.2.1.drewN nq)
            have R0 : (w3.drewN nq).cell? ⟨w2.heap.size, 0, none⟩ = some (.int .i64 tq) := r0
            have R1 : (w3.drewN nq).cell? ⟨w2.heap.size, 1, none⟩ = some (.string sq) := r1
            clear r0 r1 p5 HLr HB3
            generalize w3.drewN nq = w4 at *
            have HRl := Lib.hid (World.block_lt_of_cell? w4 _ R0)
            have p7 := HLg.out.p7
            have HRa : Hid (ra = none ∨ blk lB ra ≠ lB) := Lib.hid (by
              rcases HF.out.fr with z | z
              · exact .inl z
              · exact .inr (by have := Hlt.out; omega))
            have HOw : Hid (OwnR (w4.alloc (.cells #[.int .i64 tq, .string sq] 139)).drew ra cap rs) := Lib.hid (HOg.out.of_block (lB := lB) (Below.heap_alloc _ _ _ (HOg.out.lt HLg.out.lt)))
            have Hc0 : Hid ((w4.alloc (.cells #[.int .i64 tq, .string sq] 139)).drew.cell? ⟨w4.heap.size, 0, none⟩ = some (.int .i64 tq)) := Lib.hid (by show (w4.alloc _).cell? _ = _; rw [World.cell?_alloc_mark]; rfl)
            have Hc1 : Hid ((w4.alloc (.cells #[.int .i64 tq, .string sq] 139)).drew.cell? ⟨w4.heap.size, 1, none⟩ = some (.string sq)) := Lib.hid (by show (w4.alloc _).cell? _ = _; rw [World.cell?_alloc_mark]; rfl)
            have HB4 : Hid (But [] w4 (w4.alloc (.cells #[.int .i64 tq, .string sq] 139)).drew) := Lib.hid (((But.refl _ _).alloc _).drew)
            have p7a : (w4.alloc (.cells #[.int .i64 tq, .string sq] 139)).cell? ⟨lB, 7, none⟩ = some (.slice ra k cap) := (HLg.out.but ((But.refl [] w4).alloc _) (by simp)).p7
            have HL1 : Hid (k + 1 ≤ 1000) := Lib.hid (by have := HN.out; have := HKn.out; omega)
            have HRk := Lib.hid HF.out.ln
            go_wp2_with fail
            go_region_law (refine step_append_rec _ rfl (.tmp 62) (.tmp 64) rfl ra k cap rs rfl HRk.out HOw.out _ _ ⟨tq, sq⟩ rfl Hc0.out Hc1.out HL1.out ?_
                           intro a5 cap5 w5 hown5 hgr hbl
                           have HG5 : Hid (LogC w5 lB dB first N cv h t l (.slice ra k cap)) := Lib.hid ((HLg.out.but HB4.out (by simp)).of_block (hgr.block lB (by have := HB4.out.size; have := HLg.out.lt; omega) (by
                             rcases HRa.out with z | z
                             · subst z; simp [Value.ownBlock]
                             · cases ra with
                               | none => simp [Value.ownBlock]
                               | some q => simp only [Value.ownBlock, ne_eq, Option.some.injEq]; exact fun e => z e.symm)))
                           have p75 := HG5.out.p7
                           have f75 := HG5.out.fz 7
                           have HO5 := Lib.hid hown5
                           have HGr := Lib.hid hgr
                           have HBl := Lib.hid hbl
                           clear hown5 hgr hbl)
            all_goals
              have hrb : (ra ≠ none ∧ blk lB a5 = blk lB ra) ∨ blk lB a5 = w4.heap.size + 1 := by
                rcases grow_ways HBl.out HO5.out with ⟨z1, z2⟩ | z
                · exact .inl ⟨z1, z2 lB⟩
                · exact .inr (by rw [z lB]; simp)
              have hsz4 : w.heap.size ≤ w4.heap.size := Nat.le_trans HF.out.bt.size HBg.out.size
              have hfr : w.heap.size ≤ blk lB a5 := by
                rcases hrb with ⟨z1, z2⟩ | z
                · rw [z2]; exact HF.out.fr.resolve_left z1
                · omega
              have hne5 : blk lB a5 ≠ lB := by have := Hlt.out; omega
              have hb5 : But [lB] w w5 := (HF.out.bt.trans (HBg.out.mono (by simp))).trans ((HB4.out.mono (m := [lB]) (by simp))) |>.grown HGr.out (fun q hq => by
                cases hra : ra with
                | none => rw [hra] at hq; simp [Value.ownBlock] at hq
                | some z =>
                  rw [hra] at hq
                  simp [Value.ownBlock] at hq
                  subst hq
                  have := HF.out.fr.resolve_left (by rw [hra]; simp)
                  rw [hra] at this
                  exact .inr this)
              have HNew : Hid (Fnd w (w5.setCell ⟨lB, 7, none⟩ (.slice a5 (k + 1) cap5)) lB dB first N cv h t l S (k + 1) tq (rs ++ [⟨tq, sq⟩]) a5 cap5) := Lib.hid
                { lc := HG5.out.setR _
                  ow := HO5.out.of_block (lB := lB) (Below.heap_setCell _ _ _ _ hne5)
                  ln := by rw [List.length_append, HRk.out]; rfl
                  bt := hb5.set _ (.inl (by simp))
                  fr := .inr hfr
                  is := by
                    rw [HF.out.is, HFs.out, if_pos ⟨C1.out, C2.out, C3.out⟩, List.append_assoc, show N - (k + 1) = N - k - 1 by omega, show h + ((k + 1 : Nat) : Int) = h + (k : Int) + 1 by omega]
                    rfl }
              have HR5 : Hid ((w5.setCell ⟨lB, 7, none⟩ (.slice a5 (k + 1) cap5)).cell? ⟨w2.heap.size, 0, none⟩ = some (.int .i64 tq)) := Lib.hid (by
                have e1 := HF.out.ow.lt HF.out.lc.lt
                have e2 := HB2.out.size
                have e3 := HF.out.lc.lt
                have hne : some w2.heap.size ≠ (Value.slice ra k cap).ownBlock := by
                  cases hra : ra with
                  | none => simp [Value.ownBlock]
                  | some z =>
                    rw [hra] at e1
                    simp only [Value.ownBlock, ne_eq, Option.some.injEq]
                    simp only [blk] at e1
                    omega
                have hz := (HGr.out.block w2.heap.size (by have := HB4.out.size; have := HRl.out; simp at this ⊢; omega) hne).trans (HB4.out.block _ HRl.out (by simp))
                rw [World.cell?_setCell_other _ _ _ _ (by intro z; injection z with z; omega), World.cell?_of_block (w := w4) (a := ⟨w2.heap.size, 0, none⟩) hz]
                exact R0)
              have R5 := HR5.out
              clear hrb hsz4 hfr hne5 hb5
              go_wp2_with fail
              go_roundw
              case rel => exact ⟨k + 1, tq, _, a5, cap5, by have := HKn.out; omega, rfl, by go_num, HNew.out⟩
              case measure => have := HKn.out; simp [intOf]; omega
          · have hc3 : t < tq := by omega
            have HE : Hid (M.findL S first N t (N - k) (h + k) ls = []) := Lib.hid (by rw [HFs.out, if_neg (fun z => c3 z.2.2)])
            clear c3
            go_wp2_with (first
              | (go_at_call 87; with_reducible refine HRr.out.mono ?_; rintro e w2 ⟨rfl, hb2⟩
                 have HB2 := Lib.hid (HQ.out.trans (hb2.mono HQ.out.size))
                 clear hb2)
              | (go_at_call 86; with_reducible refine (CT.out _ (HB2.out.alloc HB2.out.size _)).mono ?_; rintro e w3 ⟨rfl, hb3, hx3⟩
                 have HB3 := Lib.hid hb3
                 have HLr := Lib.hid (HP.out _ hb3)
                 have r0 : w3.cell? ⟨w2.heap.size, 0, none⟩ = some (.int .i64 tq) := by rw [hx3.cell (p := ⟨w2.heap.size, 0, none⟩) (by simp), World.cell?_alloc_mark]; rfl
                 have r1 : w3.cell? ⟨w2.heap.size, 1, none⟩ = some (.string sq) := by rw [hx3.cell (p := ⟨w2.heap.size, 1, none⟩) (by simp), World.cell?_alloc_mark]; rfl
                 have p5 := HLr.out.1.p5
                 clear hb3 hx3))
            go_quiet (fail)
            go_wp2_with fail
            rw [Exit.noGoto_ret]
            go_ret
            exact ⟨rfl, HF.out.end Hlt.out HE.out (HLr.out.2.2.2.1.drewN nq)⟩
        · have hc2 : tq < ls := by omega
          have HE : Hid (M.findL S first N t (N - k) (h + k) ls = []) := Lib.hid (by rw [HFs.out, if_neg (fun z => c2 z.2.1)])
          clear c2
          go_wp2_with (first
            | (go_at_call 87; with_reducible refine HRr.out.mono ?_; rintro e w2 ⟨rfl, hb2⟩
               have HB2 := Lib.hid (HQ.out.trans (hb2.mono HQ.out.size))
               clear hb2)
            | (go_at_call 86; with_reducible refine (CT.out _ (HB2.out.alloc HB2.out.size _)).mono ?_; rintro e w3 ⟨rfl, hb3, hx3⟩
               have HB3 := Lib.hid hb3
               have HLr := Lib.hid (HP.out _ hb3)
               have r0 : w3.cell? ⟨w2.heap.size, 0, none⟩ = some (.int .i64 tq) := by rw [hx3.cell (p := ⟨w2.heap.size, 0, none⟩) (by simp), World.cell?_alloc_mark]; rfl
               have r1 : w3.cell? ⟨w2.heap.size, 1, none⟩ = some (.string sq) := by rw [hx3.cell (p := ⟨w2.heap.size, 1, none⟩) (by simp), World.cell?_alloc_mark]; rfl
               have p5 := HLr.out.1.p5
               clear hb3 hx3))
          rw [Exit.noGoto_ret]
          go_ret
          exact ⟨rfl, HF.out.end Hlt.out HE.out HLr.out.2.2.2.1⟩
      · have hc1 : (kq != h + (k : Int)) = true := by simpa using c1
        have HE : Hid (M.findL S first N t (N - k) (h + k) ls = []) := Lib.hid (by rw [HFs.out, if_neg (fun z => c1 z.1)])
        clear c1
        go_wp2_with (first
          | (go_at_call 87; with_reducible refine HRr.out.mono ?_; rintro e w2 ⟨rfl, hb2⟩
             have HB2 := Lib.hid (HQ.out.trans (hb2.mono HQ.out.size))
             clear hb2)
          | (go_at_call 86; with_reducible refine (CT.out _ (HB2.out.alloc HB2.out.size _)).mono ?_; rintro e w3 ⟨rfl, hb3, hx3⟩
             have HB3 := Lib.hid hb3
             have HLr := Lib.hid (HP.out _ hb3)
             have r0 : w3.cell? ⟨w2.heap.size, 0, none⟩ = some (.int .i64 tq) := by rw [hx3.cell (p := ⟨w2.heap.size, 0, none⟩) (by simp), World.cell?_alloc_mark]; rfl
             have r1 : w3.cell? ⟨w2.heap.size, 1, none⟩ = some (.string sq) := by rw [hx3.cell (p := ⟨w2.heap.size, 1, none⟩) (by simp), World.cell?_alloc_mark]; rfl
             have p5 := HLr.out.1.p5
             clear hb3 hx3))
        rw [Exit.noGoto_ret]
        go_ret
        exact ⟨rfl, HF.out.end Hlt.out HE.out HLr.out.2.2.2.1⟩
    · have hke : k = N := by omega
      have hltI : ¬ (k : Int) < (N : Int) := by omega
      have HE : Hid (M.findL S first N t (N - k) (h + k) ls = []) := Lib.hid (by rw [hke, Nat.sub_self]; rfl)
      clear hlt hke hk
      go_wp2_with fail
      go_ret
      exact ⟨rfl, HF.out.end Hlt.out HE.out (But.refl _ _)⟩
end Go.Proofs.YtmcalgnpinolmaaGreat
