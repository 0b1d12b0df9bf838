/-
  PROVED: marks in sectors that are not the log's stand through whatever is done to it
-/
import Derived.Test.YtbmgaopdahlkkaaLRun2
import Derived.Test.YtbmgaopdahlkkaaLSec
namespace Go.Proofs.Ytbmgaopdahlkkaa.logAlone
open Go.ChangeShapes Go.WideShapes Go.ChangeAt Go.RowKit Go.Joins
open Go.ChangeMaps (open_string shut_string)
set_option linter.unusedVariables false
set_option linter.unusedSimpArgs false
set_option maxRecDepth 20000


def mk : List UInt8 := [109, 105, 110, 101]
def sct (r k : Nat) : Nat := if k = 0 then 0 else if k = 1 then 3 else r + 6
def ints (r : Nat) : List Value := [.int .i64 0, .int .i64 3, .int .i64 ((r : Int) + 6)]
theorem sct_get (r k : Nat) (h : k < 3) : (ints r)[k]? = some (.int .i64 (sct r k)) := by
  obtain rfl | rfl | rfl : k = 0 ∨ k = 1 ∨ k = 2 := by omega
  · rfl
  · rfl
  · simp [ints, sct]
theorem sct_lt (r k : Nat) : sct r k < r + 7 := by unfold sct; split <;> (try split) <;> omega
theorem sct_out (r k : Nat) : sct r k ≠ 1 ∧ sct r k ≠ 2 ∧ (sct r k < 4 ∨ r + 6 ≤ sct r k) := by unfold sct; split <;> (try split) <;> omega
theorem sct_inj (r : Nat) {j k : Nat} (hj : j < 3) (hk : k < 3) (h : j ≠ k) : sct r j ≠ sct r k := by
  unfold sct; split <;> split <;> (try split) <;> (try split) <;> omega
theorem sct_of {r j : Nat} (h : ∀ k, k < 3 → j ≠ sct r k) : j ≠ 0 ∧ j ≠ 3 ∧ j ≠ r + 6 := ⟨h 0 (by omega), h 1 (by omega), h 2 (by omega)⟩
theorem ints_row (w : World) {r : Nat} {x : Int} (hx : x = (r : Int) + 6) (t : TypeId) : Row (w.alloc (.cells #[.int .i64 0, .int .i64 3, .int .i64 x] t)) (some ⟨w.heap.size, 0, none⟩) 3 3 (ints r) := by
  subst hx
  refine ⟨rfl, Nat.le_refl _, by simp [maxLen], .inr ⟨w.heap.size, 0, rfl, by simp, fun i hi => ?_⟩⟩
  obtain rfl | rfl | rfl : i = 0 ∨ i = 1 ∨ i = 2 := by omega
  · rw [World.cell?_alloc_mark]; rfl
  · rw [World.cell?_alloc_mark]; rfl
  · rw [World.cell?_alloc_mark]; rfl
theorem ints_cell {w : World} {r b k : Nat} (h : Row w (some ⟨b, 0, none⟩) 3 3 (ints r)) (hk : k < 3) : w.cell? ⟨b, k, none⟩ = some (.int .i64 (sct r k)) := by
  obtain ⟨_, _, _, h4⟩ := h
  rcases h4 with h4 | ⟨b', off, ha, hlt, hc⟩
  · cases h4
  · injection ha with ha
    injection ha with e1 e2
    subst e1 e2
    have := hc k hk
    rw [sct_get r k hk, Nat.zero_add] at this
    exact this
theorem mk_row (w : World) (t : TypeId) (fr : Nat × Nat) : Row (w.alloc (.cells #[.int .u8 109, .int .u8 105, .int .u8 110, .int .u8 101] t fr)) (some ⟨w.heap.size, 0, none⟩) 4 4 (u8s mk) := by
  refine ⟨rfl, Nat.le_refl _, by simp [maxLen], .inr ⟨w.heap.size, 0, rfl, by simp, fun i hi => ?_⟩⟩
  obtain rfl | rfl | rfl | rfl : i = 0 ∨ i = 1 ∨ i = 2 ∨ i = 3 := by omega
  · rw [World.cell?_alloc_mark]; rfl
  · rw [World.cell?_alloc_mark]; rfl
  · rw [World.cell?_alloc_mark]; rfl
  · rw [World.cell?_alloc_mark]; rfl

variable {w0 : World} {dB sB mB n : Nat} {d : M.Dv}
theorem write_mark {wr : World} (h : Dev w0 wr dB sB mB n d) (i : Nat) (hi : i < n) (t : TypeId) (fr : Nat × Nat) :
    Calls Try.prog 21 #[.pointer (some ⟨dB, 0, none⟩), .int .i64 i, .slice (some ⟨wr.heap.size, 0, none⟩) 4 4] (wr.alloc (.cells #[.int .u8 109, .int .u8 105, .int .u8 110, .int .u8 101] t fr)) fun e w' => e = .returned (.int .i64 0) ∧
      ∃ d', Dev w0 w' dB sB mB n d' ∧ But [dB, mB] wr w' ∧ M.seen d' i = M.pad mk ∧ ∀ j : Nat, j ≠ i → M.seen d' j = M.seen d j := by
  have hba : Below wr.heap.size wr (wr.alloc (.cells #[.int .u8 109, .int .u8 105, .int .u8 110, .int .u8 101] t fr)) := (Below.refl _ _).alloc (Nat.le_refl _) _
  have hn := h.dv.n512
  have hlt := h.dv.ltD
  have hE : M.writeE n d i mk = 0 := by rw [h.fr.writeE, if_neg (by omega), if_neg (by decide)]
  refine (write_any _ (h.below hba).dv (i : Int) (by omega) (by omega) (some ⟨wr.heap.size, 0, none⟩) 4 4 mk (mk_row wr t fr) (.inr (fun b off e => by
    injection e with e
    injection e with e1
    subst e1
    simp
    omega))).mono ?_
  rintro e w' ⟨rfl, hd', hb'⟩
  rw [hE]
  have hbu : But [dB, mB] wr w' := ((But.of_below hba).mono (by simp)).trans hb'
  exact ⟨rfl, _, ⟨hd', h.fr.write n i mk, h.be.trans (hbu.to_below (by have := h.od; simp; omega) h.be.size), h.od⟩, hbu, seen_write_same h.fr n mk hE, fun j hj => seen_write h.fr n (by omega) mk⟩

theorem pad_take : str ((M.pad mk).take 4) = ⟨#[109, 105, 110, 101]⟩ := by decide
theorem read_mark (w : World) (hd : DevAt w dB sB mB n d) (hf : Free d) (i : Nat) (hi : i < n) (hm : M.seen d i = M.pad mk) :
    Calls Try.prog 22 #[.pointer (some ⟨dB, 0, none⟩), .int .i64 i] w fun e w' => ∃ b, e = .returned (.tuple #[.slice (some ⟨b, 0, none⟩) 144 144, .int .i64 0]) ∧
      (convert 47 9 (.slice (some ⟨b, 0, none⟩) 4 144)).run Try.prog w' = .ok (.string ⟨#[109, 105, 110, 101]⟩) w' ∧ Below w.heap.size w w' := by
  refine (read_yes w hd i (by rw [hf.reach, if_neg (by omega)])).mono ?_
  rintro e w' ⟨b, rfl, h1, h2, h3, h4, h5⟩
  refine ⟨b, rfl, ?_, h5⟩
  have := conv_take (k := 4) h3 h2 (seen_len hd.wf i) (by omega)
  rw [hm, pad_take] at this
  exact this

/-- the marks stand -/
def Mine (r : Nat) (d : M.Dv) : Prop := ∀ j, j < 3 → M.seen d (sct r j) = M.pad mk
theorem Mine.keep {r : Nat} {d d' : M.Dv} (h : Mine r d) (hs : ∀ j : Nat, (∀ k, k < 3 → j ≠ sct r k) ∨ M.seen d' j = M.seen d j) : Mine r d' := fun j hj => by
  rcases hs (sct r j) with h1 | h1
  · exact absurd rfl (h1 j hj)
  · rw [h1]; exact h j hj
theorem Mine.cell {r : Nat} {d d' : M.Dv} (h : Mine r d) (hs : ∀ j : Nat, j ≠ 1 → j ≠ 2 → M.seen d' j = M.seen d j) : Mine r d' := fun j hj => by
  rw [hs _ (sct_out r j).1 (sct_out r j).2.1]; exact h j hj
theorem Mine.ring {r : Nat} {d d' : M.Dv} (h : Mine r d) {p : Nat} (hp : 4 ≤ p ∧ p < r + 6) (hs : ∀ j : Nat, j ≠ p → M.seen d' j = M.seen d j) : Mine r d' := fun j hj => by
  rw [hs _ (by have := (sct_out r j).2.2; omega)]; exact h j hj
theorem place_in (r : Nat) (t : Int) : 4 ≤ M.place 4 (r + 2) t ∧ M.place 4 (r + 2) t < r + 6 := by
  obtain ⟨p, hp, hq⟩ := M.place_lt (first := 4) (show 0 < r + 2 by omega) t
  omega
theorem row_front {w : World} {a : Option Addr} {n c : Nat} {l : List ByteArray} {s : ByteArray} (h : C.Row w a (n + 1) c (C.strs (l ++ [s]))) (hl : l.length = n) : C.Row w a n c (C.strs l) := by
  obtain ⟨h1, h2, h3, h4⟩ := h
  refine ⟨by simp [C.strs, hl], by omega, h3, ?_⟩
  rcases h4 with h4 | ⟨b, off, ha, hlt, hc⟩
  · simp [C.strs] at h4
  · refine .inr ⟨b, off, ha, hlt, fun i hi => ?_⟩
    rw [hc i (by omega)]
    simp only [C.strs, List.map_append]
    exact List.getElem?_append_left (by simp; omega)

set_option maxHeartbeats 4000000 in
theorem walk (x0 : Int) (a1 : Option Addr) (n1 c1 : Nat) (l1 : List A) (w : World) (w0 : (Lit.int .u8 x0).wf = true) (w1 : Acts w a1 n1 c1 l1) :
    Calls Try.prog 5 #[.int .u8 x0, .slice a1 n1 c1] w fun e w' => e = .returned (.bool true) ∧ Below w.heap.size w w' := by
  obtain ⟨r, hr, hrm⟩ := u8_mod x0 19 (by decide) w0 (kI := 19) rfl
  have HA := Lib.hid (awake_any w)
  have HW := Lib.hid w1
  have hrI : (r : Int) < 19 := by omega
  have hr0 : (0 : Int) ≤ (r : Int) := by omega
  have Hr := Lib.hid hr
  clear w0 w1 hr
  go_enter Try.func5, Try.ntmps5
  go_wp2_with (first
    | (go_at_call 8; refine HA.out.mono ?_; rintro e w1 ⟨rfl, hb1⟩; have HN := Lib.hid (run_new (w0 := w) w1 hb1 (r + 7) (by have := Hr.out; omega) (x := (r : Int) + 2 + 5) (by omega)); clear hb1)
    | (go_at_call 9; with_reducible refine HN.out.mono ?_; rintro e w2 ⟨dB, sB, mB, rfl, hD, _, _⟩
       have HD := Lib.hid hD
       have HI := Lib.hid (ints_row w2 (r := r) (x := (r : Int) + 2 + 4) (by omega) 3)
       clear hD))
  have HB2 : Hid (dB < w2.heap.size ∧ mB < w2.heap.size) := Lib.hid ⟨HD.out.dv.ltD, HD.out.dv.pend.lt⟩
  go_loopw [37] (fun i wr => ∃ (k : Nat) (d : M.Dv), k ≤ 3 ∧ i = .int .i64 k ∧ Dev w wr dB sB mB (r + 7) d ∧ Row wr (some ⟨w2.heap.size, 0, none⟩) 3 3 (ints r) ∧ (∀ j, j < k → M.seen d (sct r j) = M.pad mk) ∧ (∀ j : Nat, (∀ q, q < 3 → j ≠ sct r q) → M.seen d j = M.zero)) (fun i _ => 3 - (intOf i).toNat)
  case atStart => exact ⟨0, _, by omega, rfl, HD.out.below ((Below.refl _ _).alloc (Nat.le_refl _) _), HI.out, fun j hj => absurd hj (by omega), fun j _ => rfl⟩
  case round =>
    obtain ⟨k, d, hk3, rfl, hD, hI, hM, hZ⟩ := hrel
    by_cases hlt : k < 3
    · have hltI : (k : Int) < 3 := by omega
      have hm0 : wr.cell? ⟨w2.heap.size, k, none⟩ = some (.int .i64 (sct r k)) := ints_cell hI hlt
      have HW5 := Lib.hid (write_mark hD (sct r k) (sct_lt r k) 5)
      have hkc := Lib.run_convert_bytes_const (P := Try.prog) wr 47 5 #[.int .u8 109, .int .u8 105, .int .u8 110, .int .u8 101] 4 4 Try.underlying47 Try.underlying5
      have HI5 := Lib.hid hI
      have HK := Lib.hid hlt
      have HM := Lib.hid hM
      have HZ := Lib.hid hZ
      clear hD hI hM hZ hlt hk3
      go_wp2_with (first
        | (go_at_call 21; with_reducible refine (HW5.out _).mono ?_; rintro e w5 ⟨rfl, d5, hD5, hb5, hs5, ho5⟩
           have HD5 := Lib.hid hD5
           have HI6 := Lib.hid (row_but HI5.out hb5 (.inr (fun b off e => by injection e with e; injection e with e1; have := HB2.out; subst e1; simp; omega)))
           have HS5 := Lib.hid (And.intro hs5 ho5)
           clear hD5 hb5 hs5 ho5))
      go_roundw
      case rel => exact ⟨k + 1, d5, by have := HK.out; omega, by go_num, HD5.out, HI6.out, fun j hj => by
        by_cases e : j = k
        · rw [e]; exact HS5.out.1
        · rw [HS5.out.2 _ (sct_inj r (by have := HK.out; omega) HK.out e)]; exact HM.out j (by omega), fun j hj => by
        rw [HS5.out.2 _ (hj k HK.out)]; exact HZ.out j hj⟩
      case measure => have := HK.out; simp [intOf]; omega
    · have hltI : ¬ (k : Int) < 3 := by omega
      have hM3 : Mine r d := fun j hj => hM j (by omega)
      have HM3 := Lib.hid hM3
      have HO := Lib.hid (run_open wr hD (first := 4) (N := r + 2) (a := 1) (b := 2) ⟨by omega, by omega, by omega, by omega, by omega, by omega, by omega, by have := Hr.out; omega⟩ (fun j hj => hZ j (fun q hq e => by have := sct_out r q; omega)) (x1 := 4) (x2 := (r : Int) + 2) (x3 := 1) (x4 := 2) rfl (by omega) rfl rfl)
      clear hD hI hM hZ hlt hk3 hM3
      go_wp2_with (first
        | (go_at_call 10; with_reducible refine HO.out.mono ?_; rintro e w6 ⟨lB, cB, rb0, d0, c0, rfl, hR0, _, _, hs0⟩
           have HR0 := Lib.hid hR0
           have HM0 := Lib.hid (HM3.out.cell hs0)
           clear hR0 hs0))
      clear HO HM3
      go_loopw [11] (fun i wr => ∃ (k : Nat) (d : M.Dv) (rb : Nat) (c : M.Cl) (L : M.Lg), k ≤ n1 ∧ k ≤ 60 ∧ i = .int .i64 k ∧ Run w wr dB sB mB (r + 7) d lB rb cB 4 (r + 2) 1 2 c L (2 + k) ∧ Mine r d) (fun i _ => 60 - (intOf i).toNat)
      case atStart => exact ⟨0, d0, rb0, c0, _, by omega, by omega, rfl, HR0.out.mono (by omega), HM0.out⟩
      case round =>
        obtain ⟨k, d, rb, c, L, hkn, hk6, rfl, hR, hMi⟩ := hrel
        have HR := Lib.hid hR
        have HMi := Lib.hid hMi
        have hk0 : (0 : Int) ≤ (k : Int) := by omega
        clear hR HR0 HM0 hMi
        by_cases hend : k = n1
        · have hge : ¬ ((k : Int) < (n1 : Int)) := by omega
          clear hend
          go_wp2_with fail
          go_ret
          exact ⟨rfl, HR.out.be⟩
        · have hlt : (k : Int) < (n1 : Int) := by omega
          by_cases h60 : k = 60
          · have hge : ¬ ((k : Int) < 60) := by omega
            clear h60 hend
            go_wp2_with fail
            go_ret
            exact ⟨rfl, HR.out.be⟩
          · have hlt6 : (k : Int) < 60 := by omega
            obtain ⟨b, off, x, rfl, hx, hok0, hok, g1, g2, g3, g4, hbl⟩ := acts_at HW.out HR.out.be (show k < n1 by omega)
            have HKn : Hid (k < n1 ∧ k < 60) := Lib.hid ⟨by omega, by omega⟩
            have HOk := Lib.hid (And.intro hok0.i1 hok0.i2)
            clear hx hok0 hok hbl hend h60
            have HLg : Hid (∀ w', Calls Try.prog 18 #[.agg #[.int .i64 x.kind, .int .i64 x.i, .string x.s, .slice x.aL x.k x.cL]] w' fun e w'' => e = .returned (.bool (largeB x)) ∧ Below w'.heap.size w' w'') := Lib.hid (fun w' => large_any w' x)
            cases hlg : largeB x with
            | true =>
              rw [hlg] at HLg
              clear hlg
              go_wp2_with (go_at_call 18; refine (HLg.out _).mono ?_; rintro e w4 ⟨rfl, hb4⟩; have HB4 := Lib.hid hb4; clear hb4)
              go_ret
              exact ⟨rfl, HR.out.be.trans ((((Below.refl _ _).alloc (Nat.le_refl _) _).trans (HB4.out.mono (by simp))).mono HR.out.be.size)⟩
            | false =>
              rw [hlg] at HLg
              clear hlg
              obtain ⟨m, hm32, hm⟩ := and31 x.i
              have Hm := Lib.hid hm32
              have hmI : (m : Int) < 32 := by omega
              have hm0 : (0 : Int) ≤ (m : Int) := by omega
              clear hm32
              by_cases c0 : x.kind = 0
              · have d0 : (x.kind == 0) = true := by simpa using c0
                clear c0
                by_cases hap : M.appR (r + 2) L x.s = 0
                · have HAp : Hid (dB < wr.heap.size ∧ mB < wr.heap.size ∧ lB < wr.heap.size ∧ rb < wr.heap.size) := Lib.hid ⟨HR.out.dv.ltD, HR.out.dv.pend.lt, HR.out.lg.la.lt.1, HR.out.lg.la.lt.2⟩
                  have Hap := Lib.hid hap
                  clear hap
                  go_wp2_with (first
                    | (go_at_call 18; refine (HLg.out _).mono ?_; rintro e w4 ⟨rfl, hb4⟩
                       have HO4 : Hid (Below wr.heap.size wr w4) := Lib.hid (((Below.refl _ _).alloc (Nat.le_refl _) _).trans (hb4.mono (by simp)))
                       have HZ4 : Hid (wr.heap.size < w4.heap.size) := Lib.hid (by have := hb4.size; simp at this; omega)
                       obtain ⟨hx0, hx1, hx2⟩ := act_cells x (hb4.mono (by simp))
                       have HR4 := Lib.hid (HR.out.below HO4.out)
                       have HSe := Lib.hid (sectors_all w4 HR4.out.dv HR4.out.fr.2)
                       clear hb4)
                    | (go_at_call 20; with_reducible refine HSe.out.mono ?_; rintro e w5 ⟨aS, cS, rfl, hoS, hb5⟩
                       have HB5 := Lib.hid hb5
                       have HoS := Lib.hid (C.own_row hoS)
                       have HR5 := Lib.hid (HR4.out.below hb5)
                       have HRc := Lib.hid HR5.out.records
                       clear hoS hb5)
                    | (go_at_call 15; with_reducible refine HRc.out.mono ?_; rintro e w6 ⟨aR, cR, rfl, hoR, hb6⟩
                       have HB46 : Hid (Below w4.heap.size w4 w6) := Lib.hid (HB5.out.trans (hb6.mono HB5.out.size))
                       have HwS := Lib.hid (C.row_below HoS.out.1 hb6 (Nat.le_refl _))
                       have HwR := Lib.hid (C.own_row hoR)
                       have HR6 := Lib.hid (HR5.out.below hb6)
                       have hy0 : w6.cell? ⟨wr.heap.size, 0, none⟩ = some (.int .i64 x.kind) := by rw [HB46.out.cell (p := ⟨wr.heap.size, 0, none⟩) HZ4.out]; exact hx0
                       have hy1 : w6.cell? ⟨wr.heap.size, 1, none⟩ = some (.int .i64 x.i) := by rw [HB46.out.cell (p := ⟨wr.heap.size, 1, none⟩) HZ4.out]; exact hx1
                       have hy2 : w6.cell? ⟨wr.heap.size, 2, none⟩ = some (.string x.s) := by rw [HB46.out.cell (p := ⟨wr.heap.size, 2, none⟩) HZ4.out]; exact hx2
                       clear hoR hb6)
                    | (go_at_call 11
                       have HAq := HR6.out.append (by have := HKn.out; omega) x.s
                       rw [Hap.out, M.appL_ok] at HAq
                       refine HAq.mono ?_
                       rintro e w7 ⟨d7, rb7, rfl, hR7, hb7, _, hs7⟩
                       clear HAq
                       have HR7 := Lib.hid hR7
                       have HM7 := Lib.hid (HMi.out.ring (place_in r L.tail) hs7)
                       have HS7 := Lib.hid hs7
                       have hs4 : wr.heap.size < w4.heap.size := HZ4.out
                       have hs5 : w4.heap.size ≤ w5.heap.size := HB5.out.size
                       have HwS7 := Lib.hid (c_row (row_but (row_c HwS.out) hb7 (.inr (fun b off e => by have := (HoS.out.2 b off e).1; have := HAp.out; simp; omega))))
                       have HwR7 := Lib.hid (c_row (row_but (row_c HwR.out.1) hb7 (.inr (fun b off e => by have := (HwR.out.2 b off e).1; have := HAp.out; simp; omega))))
                       have HSe7 := Lib.hid (sectors_all w7 hR7.dv hR7.fr.2)
                       clear hR7 hb7 hs7 hs4 hs5)
                    | (go_at_call 20; with_reducible refine HSe7.out.mono ?_; rintro e w8 ⟨aT, cT, rfl, hoT, hb8⟩
                       have HwT := Lib.hid (C.own_row hoT).1
                       have HwS8 := Lib.hid (C.row_below HwS7.out hb8 (Nat.le_refl _))
                       have HwR8 := Lib.hid (C.row_below HwR7.out hb8 (Nat.le_refl _))
                       have HR8 := Lib.hid (HR7.out.below hb8)
                       clear hoT hb8))

                  clear HSe HSe7 HRc HwS HwS7 HwR HwR7 HoS
                  go_loopw [15, 87] (fun t i wz => ∃ (j q : Nat), j ≤ r + 7 ∧ i = .int .i64 j ∧ t = .int .i64 q ∧ q ≤ 1 ∧ (j ≤ M.place 4 (r + 2) L.tail → q = 0) ∧ wz = w8) (fun _ i _ => r + 7 - (intOf i).toNat)
                  case atStart => exact ⟨0, 0, by omega, rfl, rfl, by omega, fun _ => rfl, rfl⟩
                  case round =>
                    obtain ⟨j, q, hj, rfl, rfl, hq1, hq0, rfl⟩ := hrel
                    have hqI : (q : Int) ≤ 1 := by omega
                    have hqz : (0 : Int) ≤ (q : Int) := by omega
                    have hjz : (0 : Int) ≤ (j : Int) := by omega
                    by_cases hlt : j < r + 7
                    · have hltI : (j : Int) < (r : Int) + 7 := by omega
                      obtain ⟨b, off, t, rfl, hb, ht, hc⟩ := C.row_str HwT.out j hlt
                      obtain ⟨b', off', t', rfl, hb', ht', hc'⟩ := C.row_str HwS8.out j hlt
                      rw [seenL_get hlt] at ht ht'
                      injection ht with ht
                      injection ht' with ht'
                      have HJ := Lib.hid (And.intro hlt (And.intro hq1 hq0))
                      cases hbe : (t.toList == t'.toList) with
                      | true =>
                        clear ht ht' hb hb' hlt hq1 hq0 hj
                        go_wp2_with fail
                        go_roundw
                        case rel => exact ⟨j + 1, q, by have := HJ.out; omega, by go_num, rfl, HJ.out.2.1, fun h => HJ.out.2.2 (by omega), trivial⟩
                        case measure => have := HJ.out; simp [intOf]; omega
                      | false =>
                        have he : ¬ t = t' := fun e => by rw [e] at hbe; simp at hbe
                        have hpl : j = M.place 4 (r + 2) L.tail := by
                          by_cases hp : j = M.place 4 (r + 2) L.tail
                          · exact hp
                          · exact absurd (by rw [← ht, ← ht', HS7.out j hp]) he
                        have hq9 : q = 0 := hq0 (by omega)
                        subst hq9
                        have Hpl := Lib.hid hpl
                        clear ht ht' hb hb' hlt hq1 hq0 hj hpl he
                        go_wp2_with fail
                        go_roundw
                        case rel => exact ⟨j + 1, 1, by have := HJ.out; omega, by go_num, by go_num, by omega, fun h => by have := Hpl.out; omega, trivial⟩
                        case measure => have := HJ.out; simp [intOf]; omega
                    · have hje : j = r + 7 := by omega
                      subst hje
                      have hltI : ¬ ((((r + 7 : Nat)) : Int) < (r : Int) + 7) := by omega
                      have HRc8 : Hid (Calls Try.prog 15 #[.pointer (some ⟨lB, 0, none⟩)] wr fun e w' => ∃ aR cR, e = .returned (.slice aR (L.rs.length + 1) cR) ∧ C.Own 9 w' wr.heap.size aR (L.rs.length + 1) cR (C.strs (L.rs.map (·.s) ++ [x.s])) ∧ Below wr.heap.size wr w') := Lib.hid (by
                        have := HR8.out.records
                        simpa [M.Lg.add] using this)
                      have HLn : Hid (L.rs.length ≤ 1000000) := Lib.hid (by have := HR6.out.lg.gd.ring.len; have := Hr.out; omega)
                      clear hlt hq1 hq0 hj
                      go_wp2_with (first
                        | (go_at_call 15; with_reducible refine HRc8.out.mono ?_; rintro e w9 ⟨aX, cX, rfl, hoX, hb9⟩
                           have HwX := (C.own_row hoX).1
                           have hcX : L.rs.length + 1 ≤ cX := HwX.2.1
                           obtain ⟨bX, oX, tX, rfl, _, _, _⟩ := C.row_str HwX 0 (by omega)
                           have hcXI : (L.rs.length : Int) ≤ (cX : Int) := by omega
                           have hn0 : (0 : Int) ≤ (L.rs.length : Int) := by omega
                           have HSm := Lib.hid (same_yes w9 (some ⟨bX, oX, none⟩) aR L.rs.length cX cR (L.rs.map (·.s)) (row_front HwX (by simp)) (C.row_below HwR8.out hb9 (Nat.le_refl _)) HLn.out)
                           have HR9 := Lib.hid (HR8.out.below hb9)
                           clear hoX HwX hcX hb9)
                        | (go_at_call 14; with_reducible refine HSm.out.mono ?_; rintro e w10 ⟨rfl, i10, hw10⟩
                           have HR10 := Lib.hid (HR9.out.below (show Below w9.heap.size w9 w10 by rw [hw10]; exact below_drewN _ _ _))
                           clear hw10))
                      have HIq := Lib.hid (ints_row w10 (r := r) (x := (r : Int) + 2 + 4) (by omega) 3)
                      go_loopw [131] (fun i wz => ∃ (j : Nat), j ≤ 3 ∧ i = .int .i64 j ∧ Below (w10).heap.size (w10) wz ∧ Row wz (some ⟨(w10).heap.size, 0, none⟩) 3 3 (ints r)) (fun i _ => 3 - (intOf i).toNat)
                      case atStart => exact ⟨0, by omega, rfl, (Below.refl _ _).alloc (Nat.le_refl _) _, HIq.out⟩
                      case round =>
                        obtain ⟨j, hj3, rfl, hbz, hI⟩ := hrel
                        have HBz := Lib.hid hbz
                        by_cases hlt : j < 3
                        · have hltI : (j : Int) < 3 := by omega
                          have hm0 : wr.cell? ⟨(w10).heap.size, j, none⟩ = some (.int .i64 (sct r j)) := ints_cell hI hlt
                          have HRd := Lib.hid (read_mark wr (HR10.out.below hbz).dv HR10.out.fr (sct r j) (sct_lt r j) (HM7.out j hlt))
                          have HI := Lib.hid hI
                          have HJ := Lib.hid hlt
                          clear hI hbz hlt hj3
                          go_wp2_with (first
                            | (go_at_call 22; with_reducible refine HRd.out.mono ?_; rintro e wy ⟨bY, rfl, kc, hby⟩
                               have HBy := Lib.hid (HBz.out.trans (hby.mono HBz.out.size))
                               have HIy := Lib.hid (row_below HI.out hby (Nat.le_refl _))
                               clear hby))
                          go_roundw
                          case rel => exact ⟨j + 1, by have := HJ.out; omega, by go_num, HBy.out, HIy.out⟩
                          case measure => have := HJ.out; simp [intOf]; omega
                        · have hltI : ¬ (j : Int) < 3 := by omega
                          clear hI hbz hlt hj3
                          go_wp2_with fail
                          go_roundw
                          case rel => exact ⟨k + 1, d7, rb7, c, _, by have := HKn.out; omega, by have := HKn.out; omega, by go_num, (HR10.out.below HBz.out).mono (by omega), HM7.out⟩
                          case measure => have := HKn.out; simp [intOf]; omega
                · have hapd : (M.appR (r + 2) L x.s == 0) = false := by simpa using hap
                  clear hap
                  go_wp2_with (first
                    | (go_at_call 18; refine (HLg.out _).mono ?_; rintro e w4 ⟨rfl, hb4⟩
                       have HO4 : Hid (Below wr.heap.size wr w4) := Lib.hid (((Below.refl _ _).alloc (Nat.le_refl _) _).trans (hb4.mono (by simp)))
                       have HZ4 : Hid (wr.heap.size < w4.heap.size) := Lib.hid (by have := hb4.size; simp at this; omega)
                       obtain ⟨hx0, hx1, hx2⟩ := act_cells x (hb4.mono (by simp))
                       have HR4 := Lib.hid (HR.out.below HO4.out)
                       have HSe := Lib.hid (sectors_all w4 HR4.out.dv HR4.out.fr.2)
                       clear hb4)
                    | (go_at_call 20; with_reducible refine HSe.out.mono ?_; rintro e w5 ⟨aS, cS, rfl, hoS, hb5⟩
                       have HB5 := Lib.hid hb5
                       have HoS := Lib.hid (C.own_row hoS)
                       have HR5 := Lib.hid (HR4.out.below hb5)
                       have HRc := Lib.hid HR5.out.records
                       clear hoS hb5)
                    | (go_at_call 15; with_reducible refine HRc.out.mono ?_; rintro e w6 ⟨aR, cR, rfl, hoR, hb6⟩
                       have HB46 : Hid (Below w4.heap.size w4 w6) := Lib.hid (HB5.out.trans (hb6.mono HB5.out.size))
                       have HwS := Lib.hid (C.row_below HoS.out.1 hb6 (Nat.le_refl _))
                       have HwR := Lib.hid (C.own_row hoR)
                       have HR6 := Lib.hid (HR5.out.below hb6)
                       have hy0 : w6.cell? ⟨wr.heap.size, 0, none⟩ = some (.int .i64 x.kind) := by rw [HB46.out.cell (p := ⟨wr.heap.size, 0, none⟩) HZ4.out]; exact hx0
                       have hy1 : w6.cell? ⟨wr.heap.size, 1, none⟩ = some (.int .i64 x.i) := by rw [HB46.out.cell (p := ⟨wr.heap.size, 1, none⟩) HZ4.out]; exact hx1
                       have hy2 : w6.cell? ⟨wr.heap.size, 2, none⟩ = some (.string x.s) := by rw [HB46.out.cell (p := ⟨wr.heap.size, 2, none⟩) HZ4.out]; exact hx2
                       clear hoR hb6)
                    | (go_at_call 11; with_reducible refine (HR6.out.append (by have := HKn.out; omega) x.s).mono ?_; rintro e w7 ⟨d7, rb7, rfl, hR7, _, _, hs7⟩
                       have HR7 := Lib.hid hR7
                       have HM7 := Lib.hid (HMi.out.ring (place_in r L.tail) hs7)
                       clear hR7 hs7))

                  go_roundw
                  case rel => exact ⟨k + 1, d7, rb7, c, _, by have := HKn.out; omega, by have := HKn.out; omega, by go_num, HR7.out.mono (by omega), HM7.out⟩
                  case measure => have := HKn.out; simp [intOf]; omega
              · have d0 : (x.kind == 0) = false := by simpa using c0
                clear c0
                by_cases c1 : x.kind = 1
                · have d1 : (x.kind == 1) = true := by simpa using c1
                  clear c1
                  go_wp2_with (first
                    | (go_at_call 18; refine (HLg.out _).mono ?_; rintro e w4 ⟨rfl, hb4⟩
                       have HO4 : Hid (Below wr.heap.size wr w4) := Lib.hid (((Below.refl _ _).alloc (Nat.le_refl _) _).trans (hb4.mono (by simp)))
                       have HZ4 : Hid (wr.heap.size < w4.heap.size) := Lib.hid (by have := hb4.size; simp at this; omega)
                       obtain ⟨hx0, hx1, hx2⟩ := act_cells x (hb4.mono (by simp))
                       have HR4 := Lib.hid (HR.out.below HO4.out)
                       have HSe := Lib.hid (sectors_all w4 HR4.out.dv HR4.out.fr.2)
                       clear hb4)
                    | (go_at_call 20; with_reducible refine HSe.out.mono ?_; rintro e w5 ⟨aS, cS, rfl, hoS, hb5⟩
                       have HB5 := Lib.hid hb5
                       have HoS := Lib.hid (C.own_row hoS)
                       have HR5 := Lib.hid (HR4.out.below hb5)
                       have HRc := Lib.hid HR5.out.records
                       clear hoS hb5)
                    | (go_at_call 15; with_reducible refine HRc.out.mono ?_; rintro e w6 ⟨aR, cR, rfl, hoR, hb6⟩
                       have HB46 : Hid (Below w4.heap.size w4 w6) := Lib.hid (HB5.out.trans (hb6.mono HB5.out.size))
                       have HwS := Lib.hid (C.row_below HoS.out.1 hb6 (Nat.le_refl _))
                       have HwR := Lib.hid (C.own_row hoR)
                       have HR6 := Lib.hid (HR5.out.below hb6)
                       have hy0 : w6.cell? ⟨wr.heap.size, 0, none⟩ = some (.int .i64 x.kind) := by rw [HB46.out.cell (p := ⟨wr.heap.size, 0, none⟩) HZ4.out]; exact hx0
                       have hy1 : w6.cell? ⟨wr.heap.size, 1, none⟩ = some (.int .i64 x.i) := by rw [HB46.out.cell (p := ⟨wr.heap.size, 1, none⟩) HZ4.out]; exact hx1
                       have hy2 : w6.cell? ⟨wr.heap.size, 2, none⟩ = some (.string x.s) := by rw [HB46.out.cell (p := ⟨wr.heap.size, 2, none⟩) HZ4.out]; exact hx2
                       clear hoR hb6)
                    | (go_at_call 19; with_reducible refine HR6.out.sync.mono ?_; rintro e w7 ⟨d7, rfl, hR7, _, hs7⟩
                       have HR7 := Lib.hid hR7
                       have HM7 := Lib.hid (HMi.out.cell (fun j _ _ => hs7 j))
                       clear hR7 hs7))

                  have HIq := Lib.hid (ints_row w7 (r := r) (x := (r : Int) + 2 + 4) (by omega) 3)
                  go_loopw [131] (fun i wz => ∃ (j : Nat), j ≤ 3 ∧ i = .int .i64 j ∧ Below (w7).heap.size (w7) wz ∧ Row wz (some ⟨(w7).heap.size, 0, none⟩) 3 3 (ints r)) (fun i _ => 3 - (intOf i).toNat)
                  case atStart => exact ⟨0, by omega, rfl, (Below.refl _ _).alloc (Nat.le_refl _) _, HIq.out⟩
                  case round =>
                    obtain ⟨j, hj3, rfl, hbz, hI⟩ := hrel
                    have HBz := Lib.hid hbz
                    by_cases hlt : j < 3
                    · have hltI : (j : Int) < 3 := by omega
                      have hm0 : wr.cell? ⟨(w7).heap.size, j, none⟩ = some (.int .i64 (sct r j)) := ints_cell hI hlt
                      have HRd := Lib.hid (read_mark wr (HR7.out.below hbz).dv HR7.out.fr (sct r j) (sct_lt r j) (HM7.out j hlt))
                      have HI := Lib.hid hI
                      have HJ := Lib.hid hlt
                      clear hI hbz hlt hj3
                      go_wp2_with (first
                        | (go_at_call 22; with_reducible refine HRd.out.mono ?_; rintro e wy ⟨bY, rfl, kc, hby⟩
                           have HBy := Lib.hid (HBz.out.trans (hby.mono HBz.out.size))
                           have HIy := Lib.hid (row_below HI.out hby (Nat.le_refl _))
                           clear hby))
                      go_roundw
                      case rel => exact ⟨j + 1, by have := HJ.out; omega, by go_num, HBy.out, HIy.out⟩
                      case measure => have := HJ.out; simp [intOf]; omega
                    · have hltI : ¬ (j : Int) < 3 := by omega
                      clear hI hbz hlt hj3
                      go_wp2_with fail
                      go_roundw
                      case rel => exact ⟨k + 1, d7, rb, c, L, by have := HKn.out; omega, by have := HKn.out; omega, by go_num, (HR7.out.below HBz.out).mono (by omega), HM7.out⟩
                      case measure => have := HKn.out; simp [intOf]; omega
                · have d1 : (x.kind == 1) = false := by simpa using c1
                  clear c1
                  by_cases c2 : x.kind = 2
                  · have d2 : (x.kind == 2) = true := by simpa using c2
                    clear c2
                    go_wp2_with (first
                      | (go_at_call 18; refine (HLg.out _).mono ?_; rintro e w4 ⟨rfl, hb4⟩
                         have HO4 : Hid (Below wr.heap.size wr w4) := Lib.hid (((Below.refl _ _).alloc (Nat.le_refl _) _).trans (hb4.mono (by simp)))
                         have HZ4 : Hid (wr.heap.size < w4.heap.size) := Lib.hid (by have := hb4.size; simp at this; omega)
                         obtain ⟨hx0, hx1, hx2⟩ := act_cells x (hb4.mono (by simp))
                         have HR4 := Lib.hid (HR.out.below HO4.out)
                         have HSe := Lib.hid (sectors_all w4 HR4.out.dv HR4.out.fr.2)
                         clear hb4)
                      | (go_at_call 20; with_reducible refine HSe.out.mono ?_; rintro e w5 ⟨aS, cS, rfl, hoS, hb5⟩
                         have HB5 := Lib.hid hb5
                         have HoS := Lib.hid (C.own_row hoS)
                         have HR5 := Lib.hid (HR4.out.below hb5)
                         have HRc := Lib.hid HR5.out.records
                         clear hoS hb5)
                      | (go_at_call 15; with_reducible refine HRc.out.mono ?_; rintro e w6 ⟨aR, cR, rfl, hoR, hb6⟩
                         have HB46 : Hid (Below w4.heap.size w4 w6) := Lib.hid (HB5.out.trans (hb6.mono HB5.out.size))
                         have HwS := Lib.hid (C.row_below HoS.out.1 hb6 (Nat.le_refl _))
                         have HwR := Lib.hid (C.own_row hoR)
                         have HR6 := Lib.hid (HR5.out.below hb6)
                         have hy0 : w6.cell? ⟨wr.heap.size, 0, none⟩ = some (.int .i64 x.kind) := by rw [HB46.out.cell (p := ⟨wr.heap.size, 0, none⟩) HZ4.out]; exact hx0
                         have hy1 : w6.cell? ⟨wr.heap.size, 1, none⟩ = some (.int .i64 x.i) := by rw [HB46.out.cell (p := ⟨wr.heap.size, 1, none⟩) HZ4.out]; exact hx1
                         have hy2 : w6.cell? ⟨wr.heap.size, 2, none⟩ = some (.string x.s) := by rw [HB46.out.cell (p := ⟨wr.heap.size, 2, none⟩) HZ4.out]; exact hx2
                         clear hoR hb6))
                    have hgd := HR6.out.lg.gd
                    have hh1 : 1 ≤ L.head := hgd.ring.h1
                    have hh2 : L.head ≤ 100 := by have := hgd.tail; have := HKn.out; unfold M.Lg.tail at *; omega
                    clear hgd
                    have HAp : Hid (dB < wr.heap.size ∧ sB < wr.heap.size ∧ mB < wr.heap.size ∧ cB < wr.heap.size ∧ lB < wr.heap.size ∧ rb < wr.heap.size) := Lib.hid ⟨HR.out.dv.ltD, HR.out.dv.lt, HR.out.dv.pend.lt, HR.out.lg.ca.lt, HR.out.lg.la.lt.1, HR.out.lg.la.lt.2⟩
                    have HHq : Hid (Calls Try.prog 13 #[.pointer (some ⟨lB, 0, none⟩)] w6.drew fun e w'' => e = .returned (.int .i64 L.head) ∧ w6.drew = w'') := Lib.hid (head_lg w6.drew (HR6.out.below (Below.refl _ _).drew).lg)
                    have HTq := Lib.hid ((HR6.out.below (Below.refl _ _).drew).trim' (by have := HKn.out; omega) m (x := IntKind.i64.wrap (L.head + (m : Int))) (by simp [IntKind.wrap, IntKind.bits, IntKind.signed]; omega))
                    have hq1 : w6.drew.cell? ⟨wr.heap.size, 1, none⟩ = some (.int .i64 x.i) := hy1
                    go_region_held3 (fun w' => w'.cell? ⟨wr.heap.size, 1, none⟩ = some (.int .i64 x.i))
                      (first
                        | exact hq1
                        | exact hz1)
                      (first
                        | (go_at_call 13; with_reducible refine HHq.out.mono ?_; rintro e w' ⟨rfl, rfl⟩)
                        | (go_at_call 12; with_reducible refine HTq.out.mono ?_; rintro e w7 ⟨d7, c7, rfl, hR7, hb7, hs7⟩
                           have HR7 := Lib.hid hR7
                           have HM7 := Lib.hid (HMi.out.cell hs7)
                           have hz1 : w7.cell? ⟨wr.heap.size, 1, none⟩ = some (.int .i64 x.i) := by rw [hb7.cell (by show wr.heap.size < w6.heap.size; have := HZ4.out; have := HB46.out.size; omega) (by have := HAp.out; simp; omega)]; exact hy1
                           clear hR7 hb7 hs7))
                    go_wp2_with fail

                    have HIq := Lib.hid (ints_row w7 (r := r) (x := (r : Int) + 2 + 4) (by omega) 3)
                    go_loopw [131] (fun i wz => ∃ (j : Nat), j ≤ 3 ∧ i = .int .i64 j ∧ Below (w7).heap.size (w7) wz ∧ Row wz (some ⟨(w7).heap.size, 0, none⟩) 3 3 (ints r)) (fun i _ => 3 - (intOf i).toNat)
                    case atStart => exact ⟨0, by omega, rfl, (Below.refl _ _).alloc (Nat.le_refl _) _, HIq.out⟩
                    case round =>
                      obtain ⟨j, hj3, rfl, hbz, hI⟩ := hrel
                      have HBz := Lib.hid hbz
                      by_cases hlt : j < 3
                      · have hltI : (j : Int) < 3 := by omega
                        have hm0 : wr.cell? ⟨(w7).heap.size, j, none⟩ = some (.int .i64 (sct r j)) := ints_cell hI hlt
                        have HRd := Lib.hid (read_mark wr (HR7.out.below hbz).dv HR7.out.fr (sct r j) (sct_lt r j) (HM7.out j hlt))
                        have HI := Lib.hid hI
                        have HJ := Lib.hid hlt
                        clear hI hbz hlt hj3
                        go_wp2_with (first
                          | (go_at_call 22; with_reducible refine HRd.out.mono ?_; rintro e wy ⟨bY, rfl, kc, hby⟩
                             have HBy := Lib.hid (HBz.out.trans (hby.mono HBz.out.size))
                             have HIy := Lib.hid (row_below HI.out hby (Nat.le_refl _))
                             clear hby))
                        go_roundw
                        case rel => exact ⟨j + 1, by have := HJ.out; omega, by go_num, HBy.out, HIy.out⟩
                        case measure => have := HJ.out; simp [intOf]; omega
                      · have hltI : ¬ (j : Int) < 3 := by omega
                        clear hI hbz hlt hj3
                        go_wp2_with fail
                        go_roundw
                        case rel => exact ⟨k + 1, d7, rb, c7, _, by have := HKn.out; omega, by have := HKn.out; omega, by go_num, (HR7.out.below HBz.out).mono (by omega), HM7.out⟩
                        case measure => have := HKn.out; simp [intOf]; omega
                  · have d2 : (x.kind == 2) = false := by simpa using c2
                    clear c2
                    go_wp2_with (first
                      | (go_at_call 18; refine (HLg.out _).mono ?_; rintro e w4 ⟨rfl, hb4⟩
                         have HO4 : Hid (Below wr.heap.size wr w4) := Lib.hid (((Below.refl _ _).alloc (Nat.le_refl _) _).trans (hb4.mono (by simp)))
                         have HZ4 : Hid (wr.heap.size < w4.heap.size) := Lib.hid (by have := hb4.size; simp at this; omega)
                         obtain ⟨hx0, hx1, hx2⟩ := act_cells x (hb4.mono (by simp))
                         have HR4 := Lib.hid (HR.out.below HO4.out)
                         have HSe := Lib.hid (sectors_all w4 HR4.out.dv HR4.out.fr.2)
                         clear hb4)
                      | (go_at_call 20; with_reducible refine HSe.out.mono ?_; rintro e w5 ⟨aS, cS, rfl, hoS, hb5⟩
                         have HB5 := Lib.hid hb5
                         have HoS := Lib.hid (C.own_row hoS)
                         have HR5 := Lib.hid (HR4.out.below hb5)
                         have HRc := Lib.hid HR5.out.records
                         clear hoS hb5)
                      | (go_at_call 15; with_reducible refine HRc.out.mono ?_; rintro e w6 ⟨aR, cR, rfl, hoR, hb6⟩
                         have HB46 : Hid (Below w4.heap.size w4 w6) := Lib.hid (HB5.out.trans (hb6.mono HB5.out.size))
                         have HwS := Lib.hid (C.row_below HoS.out.1 hb6 (Nat.le_refl _))
                         have HwR := Lib.hid (C.own_row hoR)
                         have HR6 := Lib.hid (HR5.out.below hb6)
                         have hy0 : w6.cell? ⟨wr.heap.size, 0, none⟩ = some (.int .i64 x.kind) := by rw [HB46.out.cell (p := ⟨wr.heap.size, 0, none⟩) HZ4.out]; exact hx0
                         have hy1 : w6.cell? ⟨wr.heap.size, 1, none⟩ = some (.int .i64 x.i) := by rw [HB46.out.cell (p := ⟨wr.heap.size, 1, none⟩) HZ4.out]; exact hx1
                         have hy2 : w6.cell? ⟨wr.heap.size, 2, none⟩ = some (.string x.s) := by rw [HB46.out.cell (p := ⟨wr.heap.size, 2, none⟩) HZ4.out]; exact hx2
                         clear hoR hb6))

                    have HIq := Lib.hid (ints_row w6 (r := r) (x := (r : Int) + 2 + 4) (by omega) 3)
                    go_loopw [131] (fun i wz => ∃ (j : Nat), j ≤ 3 ∧ i = .int .i64 j ∧ Below (w6).heap.size (w6) wz ∧ Row wz (some ⟨(w6).heap.size, 0, none⟩) 3 3 (ints r)) (fun i _ => 3 - (intOf i).toNat)
                    case atStart => exact ⟨0, by omega, rfl, (Below.refl _ _).alloc (Nat.le_refl _) _, HIq.out⟩
                    case round =>
                      obtain ⟨j, hj3, rfl, hbz, hI⟩ := hrel
                      have HBz := Lib.hid hbz
                      by_cases hlt : j < 3
                      · have hltI : (j : Int) < 3 := by omega
                        have hm0 : wr.cell? ⟨(w6).heap.size, j, none⟩ = some (.int .i64 (sct r j)) := ints_cell hI hlt
                        have HRd := Lib.hid (read_mark wr (HR6.out.below hbz).dv HR6.out.fr (sct r j) (sct_lt r j) (HMi.out j hlt))
                        have HI := Lib.hid hI
                        have HJ := Lib.hid hlt
                        clear hI hbz hlt hj3
                        go_wp2_with (first
                          | (go_at_call 22; with_reducible refine HRd.out.mono ?_; rintro e wy ⟨bY, rfl, kc, hby⟩
                             have HBy := Lib.hid (HBz.out.trans (hby.mono HBz.out.size))
                             have HIy := Lib.hid (row_below HI.out hby (Nat.le_refl _))
                             clear hby))
                        go_roundw
                        case rel => exact ⟨j + 1, by have := HJ.out; omega, by go_num, HBy.out, HIy.out⟩
                        case measure => have := HJ.out; simp [intOf]; omega
                      · have hltI : ¬ (j : Int) < 3 := by omega
                        clear hI hbz hlt hj3
                        go_wp2_with fail
                        go_roundw
                        case rel => exact ⟨k + 1, d, rb, c, L, by have := HKn.out; omega, by have := HKn.out; omega, by go_num, (HR6.out.below HBz.out).mono (by omega), HMi.out⟩
                        case measure => have := HKn.out; simp [intOf]; omega

set_option maxRecDepth 100000 in
theorem lifted (os : Os) (started : os.Started) (H : Type) (enc : TypeId × Value → H) :
    ReturnsInHanded {} Try.checked os 5 .any (Rows.logAloneSpec.pre6 enc Try.prog Try.f5 Rows.logAloneRow.domain false) (Rows.logAloneSpec.post enc Try.prog Try.f5 false true false false) := by
  refine returnsInHanded_of_change (C := Try.checked) own started (by kernel_rfl) Try.func5
    (ChangeSpec.witness6 (enc := enc) (C := Try.checked) false ⟨#[], #[.int .u8 0, .slice none 0 0], []⟩ 8 (by kernel_rfl) (by kernel_rfl) (by kernel_rfl) (by kernel_rfl)) ?_
  intro W base args ds gs before hval0 hW hcnd _
  have hval : ∀ (j : Nat) t v, Try.f5.params[j]? = some t → args[j]? = some v → Value.okWide Try.prog W .any base t v := hval0
  have hW' := hW
  obtain ⟨p, q, hA0, hV, rfl, hfz, hnd⟩ := hW
  have hA : DataW.TrodAll enc Try.prog W 0 (fun _ => true) true Try.f5.params.toList args.toList ds p := hA0
  rw [Try.params5] at hA hval
  obtain ⟨v0, vs0, d0, ds0, p0, q0, hargs, rfl, rfl, h0, r0'⟩ := trodAll_cons hA
  obtain ⟨v1, vs1, d1, ds1, p1, q1, rfl, rfl, rfl, h1, r1'⟩ := trodAll_cons r0'
  obtain ⟨rfl, rfl, rfl⟩ := trodAll_nil r1'
  obtain rfl : args = #[v0, v1] := by cases args; simp_all
  obtain ⟨rfl, rfl⟩ := trodVars_none hV
  obtain ⟨x0, rfl, rfl, rfl, w0⟩ := open_int Try.underlying5 (hval 0 5 v0 rfl rfl) h0
  have k1 := h1
  have lt1 : ∀ x ∈ p1, x.block < W.heap.size := by obtain ⟨m, hm⟩ := k1; exact DataW.trod_lt m _ _ _ hm
  obtain ⟨a1, n1, c1, l1, rfl, w1⟩ := open_lot h1 (okWide_slice Try.underlying37 (hval 1 37 v1 rfl rfl))
  clear hA0 hval0
  refine (walk x0 a1 n1 c1 l1 W w0 w1).mono fun e W' ⟨he, bel⟩ => ?_
  subst he
  exact ⟨_, rfl, _, _, _, [], _, [], hW', trodAll_mk1 (shut_bool Try.underlying4 _), (trodAll_cons_mk (shut_int Try.underlying5 w0) (trodAll_cons_mk (Below.trod laidOut (by kernel_rfl) (of_decide_eq_true (by kernel_rfl)) k1 bel lt1) trodAll_mk0)), rfl, bel.frame _, fun h => by cases h⟩

theorem over : Rows.logAloneRow.holds Try.pinned (OpenSpec.ofChange Rows.logAloneSpec) :=
  OpenClaim.holds_of_wide 5 Try.f5 rfl rfl rfl rfl rfl rfl rfl ⟨rfl, rfl, rfl, rfl, rfl⟩ rfl rfl rfl rfl rfl (by kernel_rfl) Try.func5 (by kernel_rfl)
    (of_decide_eq_true (by kernel_rfl)) (by unfold Func.isWrapper; first | (rw [if_pos (by decide +kernel)]; kernel_rfl) | (rw [if_neg (by decide +kernel)]; exact ⟨rfl, rfl⟩))
    (fun os started H enc _ => lifted os started H enc)

/-- the statement -/
theorem proved : Rows.LogAloneSaid := over
#print axioms proved
end Go.Proofs.Ytbmgaopdahlkkaa.logAlone
