/-
  A log in memory, whole; Append.
-/
import Derived.Test.YtmcalgnpinolmaaGreatLog5
import Derived.Test.YtmcalgnpinolmaaGreatLog2
namespace Go.Proofs.YtmcalgnpinolmaaGreat
open Go.RowKit
set_option linter.unusedVariables false
set_option linter.unusedSimpArgs false
set_option maxRecDepth 20000

variable {dB sB mB n : Nat} {d : M.Dv} {lB rb first N : Nat} {cv : Value}

/-- a log's own block and its row -/
def LogAt (w : World) (lB rb dB first N : Nat) (cv : Value) (L : M.Lg) : Prop :=
  ∃ ra cap, LogC w lB dB first N cv L.head L.time L.least (.slice ra L.rs.length cap) ∧ OwnR w ra cap L.rs ∧ rb = blk lB ra ∧ (ra = none ∨ rb ≠ lB)

theorem LogAt.of_block {w w' : World} {L : M.Lg} (h : LogAt w lB rb dB first N cv L) (h1 : w'.heap[lB]? = w.heap[lB]?) (h2 : w'.heap[rb]? = w.heap[rb]?) : LogAt w' lB rb dB first N cv L := by
  obtain ⟨ra, cap, g, o, e, s⟩ := h
  subst e
  exact ⟨ra, cap, g.of_block h1, o.of_block (lB := lB) h2, rfl, s⟩
theorem LogAt.lt {w : World} {L : M.Lg} (h : LogAt w lB rb dB first N cv L) : lB < w.heap.size ∧ rb < w.heap.size := by
  obtain ⟨ra, cap, g, o, e, s⟩ := h
  subst e
  exact ⟨g.lt, o.lt g.lt⟩
theorem LogAt.but {w w' : World} {L : M.Lg} (h : LogAt w lB rb dB first N cv L) {q : List Nat} (hb : But q w w') (h1 : lB ∉ q) (h2 : rb ∉ q) : LogAt w' lB rb dB first N cv L :=
  h.of_block (hb.block _ h.lt.1 h1) (hb.block _ h.lt.2 h2)
theorem LogAt.below {w w' : World} {L : M.Lg} (h : LogAt w lB rb dB first N cv L) {B : Nat} (hb : Below B w w') (hB : w.heap.size ≤ B) : LogAt w' lB rb dB first N cv L :=
  h.of_block (hb.block _ (by have := h.lt; omega)) (hb.block _ (by have := h.lt; omega))

namespace M
/-- what Append tells, and what it makes of the device and the log -/
def appE (n : Nat) (d : Dv) (first N : Nat) (L : Lg) (s : ByteArray) : Int :=
  if 110 < s.size then 3 else if N ≤ L.rs.length then 12 else writeE n d (place first N L.tail) (secL L.tail ⟨L.time, s⟩)
def appD (n : Nat) (d : Dv) (first N : Nat) (L : Lg) (s : ByteArray) : Dv :=
  if 110 < s.size then d else if N ≤ L.rs.length then d else writeD n d (place first N L.tail) (secL L.tail ⟨L.time, s⟩)
def appL (e : Int) (L : Lg) (s : ByteArray) : Lg := if e = 0 then L.add s else L
theorem appL_ok (L : Lg) (s : ByteArray) : appL 0 L s = L.add s := rfl
theorem appL_no {e : Int} (h : e ≠ 0) (L : Lg) (s : ByteArray) : appL e L s = L := if_neg h
end M

theorem free_any (w : World) {lB dB first N : Nat} {cv : Value} {h t l : Int} {ra : Option Addr} {k cap : Nat} (g : LogC w lB dB first N cv h t l (.slice ra k cap)) (h1 : N ≤ 1000) (h2 : k ≤ 1000) :
    Calls Tryz.prog 99 #[.pointer (some ⟨lB, 0, none⟩)] w fun e w' => e = .returned (.int .i64 ((N : Int) - k)) ∧ ∃ j, w' = w.drewN j := free_quiet w g h1 h2 0
theorem tail_any (w : World) {lB dB first N : Nat} {cv : Value} {h t l : Int} {ra : Option Addr} {k cap : Nat} (g : LogC w lB dB first N cv h t l (.slice ra k cap)) (h1 : 0 ≤ h ∧ h ≤ 4611686018427387904) (h2 : k ≤ 1000) :
    Calls Tryz.prog 86 #[.pointer (some ⟨lB, 0, none⟩)] w fun e w' => e = .returned (.int .i64 (h + k)) ∧ ∃ j, w' = w.drewN j := tail_quiet w g h1 h2 0
theorem place_any (w : World) {lB dB first N : Nat} {cv rv : Value} {h t l : Int} (g : LogC w lB dB first N cv h t l rv) (h1 : first ≤ 1000) (h2 : N ≤ 1000) (h3 : 1 ≤ N) (k : Int) (hk : 0 ≤ k ∧ k ≤ 4611686018427387904) :
    Calls Tryz.prog 85 #[.pointer (some ⟨lB, 0, none⟩), .int .i64 k] w fun e w' => e = .returned (.int .i64 (M.place first N k : Int)) ∧ ∃ j, w' = w.drewN j := place_quiet w g h1 h2 h3 k hk 0

theorem grow_ways {w : World} {a a' : Option Addr} {cap q : Nat} {l : List M.Rl} {r : M.Rl} (h : ∀ lB, blk lB a' = blk lB a ∨ blk lB a' = q) (ho : OwnR w a' cap (l ++ [r])) :
    (a ≠ none ∧ ∀ lB, blk lB a' = blk lB a) ∨ ∀ lB, blk lB a' = q := by
  rcases ho.ways with ⟨_, _, h3⟩ | ⟨g, cur, rfl, _⟩
  · simp at h3
  · cases a with
    | none =>
      right
      intro lB
      rcases h (g + 1) with h | h
      · simp [blk] at h
      · exact h
    | some p =>
      rcases h 0 with h | h
      · exact .inl ⟨by simp, fun _ => h⟩
      · exact .inr fun _ => h

/-- all that is known behind the write of a record -/
structure Wrote (w w2 : World) (dB sB mB n : Nat) (d2 : M.Dv) (lB first N : Nat) (cv : Value) (L : M.Lg) (ra : Option Addr) (cap R : Nat) (s : ByteArray) : Prop where
  dv : DevAt w2 dB sB mB n d2
  lc : LogC w2 lB dB first N cv L.head L.time L.least (.slice ra L.rs.length cap)
  ow : OwnR w2 ra cap L.rs
  bt : But [dB, mB] w w2
  c0 : w2.cell? ⟨R, 0, none⟩ = some (.int .i64 L.time)
  c1 : w2.cell? ⟨R, 1, none⟩ = some (.string s)

set_option maxHeartbeats 4000000 in
theorem append_do (w : World) (hd : DevAt w dB sB mB n d) (L : M.Lg) (ra : Option Addr) (cap : Nat) (g : LogC w lB dB first N cv L.head L.time L.least (.slice ra L.rs.length cap)) (hown : OwnR w ra cap L.rs) (hra : ra = none ∨ blk lB ra ≠ lB)
    (hl : lB ≠ dB ∧ lB ≠ sB ∧ lB ≠ mB) (hr : blk lB ra ≠ dB ∧ blk lB ra ≠ sB ∧ blk lB ra ≠ mB)
    (h1 : first ≤ 1000) (h2 : N ≤ 999) (h3 : 1 ≤ N) (hin : M.InT L.head L.time L.least) (htl : L.tail < 4611686018427387904) (s : ByteArray) (hs : s.size ≤ 110) (hlt : L.rs.length < N)
    (i : Nat) (hi : M.place first N L.tail = i) (sl : List UInt8) (hsl : M.secL L.tail ⟨L.time, s⟩ = sl) (ev : Int) (hev : M.writeE n d i sl = ev) :
    Calls Tryz.prog 101 #[.pointer (some ⟨lB, 0, none⟩), .string s] w fun e w' => e = .returned (.int .i64 ev) ∧ DevAt w' dB sB mB n (M.writeD n d i sl) ∧
      ∃ rb', LogAt w' lB rb' dB first N cv (M.appL ev L s) ∧ (rb' = blk lB ra ∨ w.heap.size ≤ rb') ∧ But [dB, mB, lB, blk lB ra] w w' := by
  have hk := hown.2
  have hN : (N : Int) ≤ 999 := by omega
  have hk0 : (L.rs.length : Int) < (N : Int) := by omega
  have hmay : M.MayL L.tail ⟨L.time, s⟩ := ⟨by unfold C.M.fits; have := hin.1; unfold M.Lg.tail at *; omega, by unfold C.M.fits; have := hin.2.1; simp only; omega, hs⟩
  have hil : i ≤ 2000 := by
    obtain ⟨p, hp, hq⟩ := M.place_lt (first := first) (show 0 < N by omega) L.tail
    omega
  have ht0 : 0 ≤ L.tail ∧ L.tail ≤ 4611686018427387904 := by have := hin.1; unfold M.Lg.tail at *; omega
  have hsI : (s.size : Int) ≤ 110 := by omega
  have HG := Lib.hid g
  have HO := Lib.hid hown
  have HDv := Lib.hid hd
  have HFr : Hid (∀ w', But [] w w' → Calls Tryz.prog 99 #[.pointer (some ⟨lB, 0, none⟩)] w' fun e w'' => e = .returned (.int .i64 ((N : Int) - L.rs.length)) ∧ But [] w w'') := Lib.hid fun w' hb => by
    refine (free_any w' (g.but hb (by simp)) (by omega) (by omega)).mono ?_
    rintro e w'' ⟨rfl, j, rfl⟩
    exact ⟨rfl, hb.drewN j⟩
  have HTl : Hid (∀ w', But [] w w' → Calls Tryz.prog 86 #[.pointer (some ⟨lB, 0, none⟩)] w' fun e w'' => e = .returned (.int .i64 L.tail) ∧ But [] w w'') := Lib.hid fun w' hb => by
    refine (tail_any w' (g.but hb (by simp)) ⟨by have := hin.1; omega, hin.1.2⟩ (by omega)).mono ?_
    rintro e w'' ⟨rfl, j, rfl⟩
    exact ⟨rfl, hb.drewN j⟩
  -- what holds of each world ahead of the write
  have hP : ∀ wj, But [] w wj → ∀ w', Below (wj.heap.size + 1) (wj.alloc (.cells #[.int .i64 L.time, .string s] 139)) w' → LogC w' lB dB first N cv L.head L.time L.least (.slice ra L.rs.length cap) ∧ OwnR w' ra cap L.rs ∧ DevAt w' dB sB mB n d ∧
      But [] w w' ∧ w'.cell? ⟨lB, 0, none⟩ = some (.pointer (some ⟨dB, 0, none⟩)) ∧ w'.cell? ⟨wj.heap.size, 0, none⟩ = some (.int .i64 L.time) ∧ w'.cell? ⟨wj.heap.size, 1, none⟩ = some (.string s) := fun wj hj w' hb => by
    have hbt : But [] w w' := (hj.alloc _).below hb (by have := hj.size; omega)
    have hz : w'.heap[wj.heap.size]? = some (.cells #[.int .i64 L.time, .string s] 139 (0, 0)) := (hb.block _ (Nat.lt_succ_self _)).trans (heap_alloc_new wj _)
    have gg := g.but hbt (by simp)
    exact ⟨gg, hown.of_block (lB := lB) (hbt.block _ (hown.lt g.lt) (by simp)), hd.but hbt (by simp) (by simp) (by simp), hbt, gg.p0, by simp [World.cell?, hz], by simp [World.cell?, hz]⟩
  have HP := Lib.hid hP
  have HK : Hid (∀ wj, But [] w wj → ∀ w', Below (wj.heap.size + 1) (wj.alloc (.cells #[.int .i64 L.time, .string s] 139)) w' → w'.cell? ⟨lB, 0, none⟩ = some (.pointer (some ⟨dB, 0, none⟩)) ∧ w'.cell? ⟨wj.heap.size, 0, none⟩ = some (.int .i64 L.time) ∧ w'.cell? ⟨wj.heap.size, 1, none⟩ = some (.string s)) := Lib.hid fun wj hj w' hb => (hP wj hj w' hb).2.2.2.2
  have CT : Hid (∀ wj, But [] w wj → ∀ w', Below (wj.heap.size + 1) (wj.alloc (.cells #[.int .i64 L.time, .string s] 139)) w' → Calls Tryz.prog 86 #[.pointer (some ⟨lB, 0, none⟩)] w' fun e w'' => e = .returned (.int .i64 L.tail) ∧ Below (wj.heap.size + 1) (wj.alloc (.cells #[.int .i64 L.time, .string s] 139)) w'' ∧ Below w'.heap.size w' w'') :=
    Lib.hid fun wj hj w' hb => by
      refine (tail_any w' (hP wj hj w' hb).1 ⟨by have := hin.1; omega, hin.1.2⟩ (by omega)).mono ?_
      rintro e w'' ⟨rfl, j, rfl⟩
      exact ⟨rfl, below_dn hb j, below_dn (Below.refl _ _) j⟩
  have CP : Hid (∀ wj, But [] w wj → ∀ w', Below (wj.heap.size + 1) (wj.alloc (.cells #[.int .i64 L.time, .string s] 139)) w' → Calls Tryz.prog 85 #[.pointer (some ⟨lB, 0, none⟩), .int .i64 L.tail] w' fun e w'' => e = .returned (.int .i64 (i : Int)) ∧ Below (wj.heap.size + 1) (wj.alloc (.cells #[.int .i64 L.time, .string s] 139)) w'' ∧ Below w'.heap.size w' w'') :=
    Lib.hid fun wj hj w' hb => by
      rw [← hi]
      refine (place_any w' (hP wj hj w' hb).1 h1 (by omega) h3 L.tail ht0).mono ?_
      rintro e w'' ⟨rfl, j, rfl⟩
      exact ⟨rfl, below_dn hb j, below_dn (Below.refl _ _) j⟩
  have CB : Hid (∀ wj, But [] w wj → ∀ w', Below (wj.heap.size + 1) (wj.alloc (.cells #[.int .i64 L.time, .string s] 139)) w' → Calls Tryz.prog 127 #[.agg #[.int .i64 L.time, .string s], .int .i64 L.tail] w' fun e w'' => ∃ aS capS, e = .returned (.slice aS sl.length capS) ∧ Row w'' aS sl.length capS (u8s sl) ∧ (∀ b off, aS = some ⟨b, off, none⟩ → w.heap.size ≤ b) ∧
      Below (wj.heap.size + 1) (wj.alloc (.cells #[.int .i64 L.time, .string s] 139)) w'') := Lib.hid fun wj hj w' hb => by
    refine (recb_any w' L.tail ⟨L.time, s⟩ hmay).mono ?_
    rintro e w'' ⟨aS, capS, rfl, ho, hb'⟩
    rw [hsl] at ho ⊢
    have hsz := hb.size
    simp at hsz
    exact ⟨aS, capS, rfl, ho.row, fun b off e => by have := (ho.at b off e).1; have := hj.size; omega, hb.trans (hb'.mono hsz)⟩
  have CW : Hid (∀ wj, But [] w wj → ∀ w' aS capS, Below (wj.heap.size + 1) (wj.alloc (.cells #[.int .i64 L.time, .string s] 139)) w' → Row w' aS sl.length capS (u8s sl) → (∀ b off, aS = some ⟨b, off, none⟩ → w.heap.size ≤ b) → Calls Tryz.prog 107 #[.pointer (some ⟨dB, 0, none⟩), .int .i64 (i : Int), .slice aS sl.length capS] w' fun e w'' => e = .returned (.int .i64 ev) ∧
      Wrote w w'' dB sB mB n (M.writeD n d i sl) lB first N cv L ra cap wj.heap.size s) := Lib.hid fun wj hj w' aS capS hb hrow hsep => by
    obtain ⟨q1, q2, q3, q4, q5, q6, q7⟩ := hP wj hj w' hb
    have hsz := hb.size
    simp at hsz
    have e0 := hj.size
    have e1 := hd.ltD
    have e2 := hd.pend.lt
    refine (write_any w' q3 (i : Int) (by omega) (by omega) _ _ _ sl hrow (.inr fun b off e => by have := hsep b off e; simp; omega)).mono ?_
    rintro e w'' ⟨rfl, hd2, hb2⟩
    rw [hev]
    exact ⟨rfl, hd2, q1.but hb2 (by simp; omega), q2.of_block (lB := lB) (hb2.block _ (q2.lt q1.lt) (by simp; omega)), (q4.mono (by simp)).trans hb2, by rw [hb2.cell (by omega) (by simp; omega)]; exact q6, by rw [hb2.cell (by omega) (by simp; omega)]; exact q7⟩
  have HM : Hid (lB ≠ dB ∧ lB ≠ sB ∧ lB ≠ mB) := Lib.hid hl
  have HR : Hid (blk lB ra ≠ dB ∧ blk lB ra ≠ sB ∧ blk lB ra ≠ mB) := Lib.hid hr
  have HRa : Hid (ra = none ∨ blk lB ra ≠ lB) := Lib.hid hra
  have hp5 : ∀ w', But [] w w' → w'.cell? ⟨lB, 5, none⟩ = some (.int .i64 L.time) := fun w' hb => (g.but hb (by simp)).p5
  have HP5 := Lib.hid hp5
  have hsd : decide ((110 : Int) < (s.size : Int)) = false := by simp; omega
  have hne12 : (((N : Int) - (L.rs.length : Int)) == 0) = false := by rw [beq_eq_false_iff_ne]; omega
  have hneM : (L.tail == 4611686018427387904) = false := by rw [beq_eq_false_iff_ne]; omega
  have HLB : Hid (lB < w.heap.size) := Lib.hid g.lt
  have HLen : Hid (L.rs.length < N ∧ L.rs.length ≤ 1000 ∧ N ≤ 999) := Lib.hid ⟨hlt, hk, h2⟩
  clear hd g hown hra hl hr hin htl hs hlt hi hsl hev hmay hil ht0 hP hk hk0 hN hp5
  go_enter Tryz.func101, Tryz.ntmps101
  go_wp2_with (first
    | (go_at_call 99; with_reducible refine (HFr.out _ (But.refl _ _)).mono ?_; rintro e w1 ⟨rfl, hj1⟩; have HJ1 := Lib.hid hj1; clear hj1)
    | (go_at_call 86; with_reducible refine (HTl.out _ HJ1.out).mono ?_; rintro e w2 ⟨rfl, hj2⟩; have HJ := Lib.hid hj2; have m5 := HP5.out _ hj2; clear hj2))
  have K0 := Lib.hid (HK.out w2 HJ.out _ ((Below.refl _ _).drew))
  have B0 := Lib.hid ((Below.refl (w2.heap.size + 1) (w2.alloc (.cells #[.int .i64 L.time, .string s] 139))).drew)
  go_region_held3 (fun w' => w'.cell? ⟨lB, 0, none⟩ = some (.pointer (some ⟨dB, 0, none⟩)) ∧ w'.cell? ⟨w2.heap.size, 0, none⟩ = some (.int .i64 L.time) ∧ w'.cell? ⟨w2.heap.size, 1, none⟩ = some (.string s))
    (first
      | exact K0.out
      | exact ⟨hwr.lc.p0, hwr.c0, hwr.c1⟩
      | exact HK.out w2 HJ.out _ hqb
      | exact HK.out w2 HJ.out _ hqp
      | exact HK.out w2 HJ.out _ hqt)
    (first
      | (go_at_call 86; with_reducible refine (CT.out w2 HJ.out _ (by first | exact B0.out | exact hqp | exact hqb | exact hqt)).mono ?_; rintro e wt ⟨rfl, hqt, hxt⟩; try (replace hrow := row_below hrow hxt (Nat.le_refl _)))
      | (go_at_call 85; with_reducible refine (CP.out w2 HJ.out _ (by first | exact hqt | exact hqb)).mono ?_; rintro e wp ⟨rfl, hqp, hxp⟩; try (replace hrow := row_below hrow hxp (Nat.le_refl _)))
      | (go_at_call 127; with_reducible refine (CB.out w2 HJ.out _ (by first | exact hqt | exact hqp)).mono ?_; rintro e wb ⟨aS, capS, rfl, hrow, hsep, hqb⟩)
      | (go_at_call 107; with_reducible refine (CW.out w2 HJ.out _ _ _ (by first | exact hqp | exact hqb) hrow hsep).mono ?_; rintro e ww ⟨rfl, hwr⟩))
  have HWr := Lib.hid hwr
  clear hwr hqb hsep hrow K0 B0 HK CT CP CB CW
  try clear hqt
  try clear hqp
  try clear hxt
  try clear hxp
  by_cases he : ev = 0
  · subst he
    have p7 := HWr.out.lc.p7
    have p0 := HWr.out.lc.p0
    have c0 := HWr.out.c0
    have c1 := HWr.out.c1
    have HOw : Hid (OwnR (ww.alloc (.cells #[.int .i64 L.time, .string s] 139)).drew ra cap L.rs) := Lib.hid (HWr.out.ow.of_block (lB := lB) (Below.heap_alloc _ _ _ (HWr.out.ow.lt HWr.out.lc.lt)))
    have Hc0 : Hid ((ww.alloc (.cells #[.int .i64 L.time, .string s] 139)).drew.cell? ⟨ww.heap.size, 0, none⟩ = some (.int .i64 L.time)) := Lib.hid (by show (ww.alloc _).cell? _ = _; rw [World.cell?_alloc_mark]; rfl)
    have Hc1 : Hid ((ww.alloc (.cells #[.int .i64 L.time, .string s] 139)).drew.cell? ⟨ww.heap.size, 1, none⟩ = some (.string s)) := Lib.hid (by show (ww.alloc _).cell? _ = _; rw [World.cell?_alloc_mark]; rfl)
    have HB4 : Hid (But [] ww (ww.alloc (.cells #[.int .i64 L.time, .string s] 139)).drew) := Lib.hid (((But.refl _ _).alloc _).drew)
    have p7a : (ww.alloc (.cells #[.int .i64 L.time, .string s] 139)).cell? ⟨lB, 7, none⟩ = some (.slice ra L.rs.length cap) := (HWr.out.lc.but ((But.refl [] ww).alloc _) (by simp)).p7
    have HL1 : Hid (L.rs.length + 1 ≤ 1000) := Lib.hid (by have := HLen.out; omega)
    go_wp2_with fail
    go_region_law (refine step_append_rec _ rfl (.tmp 46) (.tmp 48) rfl ra L.rs.length cap L.rs rfl rfl HOw.out _ _ ⟨L.time, s⟩ rfl Hc0.out Hc1.out HL1.out ?_
                   intro a4 cap4 w4 hown4 hgr hbl
                   have HG4 : Hid (LogC w4 lB dB first N cv L.head L.time L.least (.slice ra L.rs.length cap)) := Lib.hid ((HWr.out.lc.but HB4.out (by simp)).of_block (hgr.block lB (by have := HB4.out.size; have := HWr.out.lc.lt; omega) (by
                     rcases HRa.out with rfl | hz
                     · simp [Value.ownBlock]
                     · cases ra with
                       | none => simp [Value.ownBlock]
                       | some q => simp only [Value.ownBlock, ne_eq, Option.some.injEq]; exact fun e => hz e.symm)))
                   have p74 := HG4.out.p7
                   have f74 := HG4.out.fz 7
                   have HO4 := Lib.hid hown4
                   have HGr := Lib.hid hgr
                   have HBl := Lib.hid hbl
                   clear hown4 hgr hbl)
    all_goals
      have hlen : (L.add s).rs.length = L.rs.length + 1 := by simp [M.Lg.add]
      have hsz4 : w.heap.size ≤ ww.heap.size := HWr.out.bt.size
      have hltl := HLB.out
      have hrb : (ra ≠ none ∧ blk lB a4 = blk lB ra) ∨ blk lB a4 = ww.heap.size + 1 := by
        rcases grow_ways HBl.out HO4.out with ⟨z1, z2⟩ | z
        · exact .inl ⟨z1, z2 lB⟩
        · exact .inr (by rw [z lB]; simp)
      have hne4 : blk lB a4 ≠ lB := by
        rcases hrb with ⟨z1, z2⟩ | z
        · rw [z2]; exact HRa.out.resolve_left z1
        · omega
      have hb4 : But [dB, mB, lB, blk lB ra] w w4 := (HWr.out.bt.mono (by simp)).trans (((HB4.out).mono (m := [dB, mB, lB, blk lB ra]) (by simp)).grown HGr.out (fun k hk => by
        cases ra with
        | none => simp [Value.ownBlock] at hk
        | some q => simp [Value.ownBlock] at hk; subst hk; simp [blk]))
      have hb5 : But [dB, mB, lB, blk lB ra] w (w4.setCell ⟨lB, 7, none⟩ (.slice a4 (L.rs.length + 1) cap4)) := hb4.set _ (.inl (by simp))
      have hb6 : But [lB, blk lB ra] ww (w4.setCell ⟨lB, 7, none⟩ (.slice a4 (L.rs.length + 1) cap4)) := ((((HB4.out).mono (m := [lB, blk lB ra]) (by simp)).grown HGr.out (fun k hk => by
        cases ra with
        | none => simp [Value.ownBlock] at hk
        | some q => simp [Value.ownBlock] at hk; subst hk; simp [blk]))).set _ (.inl (by simp))
      go_wp2_with fail
      go_ret
      refine ⟨rfl, HWr.out.dv.but hb6 (by have := HM.out; have := HR.out; simp; omega) (by have := HM.out; have := HR.out; simp; omega) (by have := HM.out; have := HR.out; simp; omega), blk lB a4, ⟨a4, cap4, ?_, ?_, rfl, .inr hne4⟩, ?_, hb5⟩
      · rw [M.appL_ok, hlen]
        exact HG4.out.setR _
      · rw [M.appL_ok]
        exact HO4.out.of_block (lB := lB) (Below.heap_setCell _ _ _ _ hne4)
      · rcases hrb with ⟨_, z⟩ | z
        · exact .inl z
        · exact .inr (by omega)
  · have hne : (ev != 0) = true := by simpa using he
    have HN := Lib.hid he
    clear he
    go_wp2_with fail
    go_ret
    exact ⟨rfl, HWr.out.dv, blk lB ra, ⟨ra, cap, by rw [M.appL_no HN.out]; exact HWr.out.lc, by rw [M.appL_no HN.out]; exact HWr.out.ow, rfl, HRa.out⟩, .inl rfl, HWr.out.bt.mono (by simp)⟩

theorem append_long (w : World) (p : Addr) (s : ByteArray) (hs : 110 < s.size) : Calls Tryz.prog 101 #[.pointer (some p), .string s] w fun e w' => e = .returned (.int .i64 3) ∧ w = w' := by
  have hsd : (110 : Int) < (s.size : Int) := by omega
  clear hs
  go_enter Tryz.func101, Tryz.ntmps101
  go_wp2
  go_ret
  exact ⟨rfl, rfl⟩

theorem append_full (w : World) {ra : Option Addr} {k cap : Nat} {h t l : Int} (g : LogC w lB dB first N cv h t l (.slice ra k cap)) (h2 : N ≤ 999) (hk : N = k) (s : ByteArray) (hs : s.size ≤ 110) :
    Calls Tryz.prog 101 #[.pointer (some ⟨lB, 0, none⟩), .string s] w fun e w' => e = .returned (.int .i64 12) ∧ Below w.heap.size w w' := by
  have HFr := Lib.hid (free_any w g (by omega) (by omega))
  have hsd : decide ((110 : Int) < (s.size : Int)) = false := by simp; omega
  have hz : (N : Int) - (k : Int) = 0 := by omega
  rw [hz] at HFr
  clear g hs hk hz h2
  go_enter Tryz.func101, Tryz.ntmps101
  go_wp2_with (go_at_call 99; with_reducible refine HFr.out.mono ?_; rintro e w1 ⟨rfl, j, rfl⟩)
  go_ret
  exact ⟨rfl, below_drewN _ _ _⟩

theorem append_any (w : World) (hd : DevAt w dB sB mB n d) (L : M.Lg) (hL : LogAt w lB rb dB first N cv L) (hl : lB ≠ dB ∧ lB ≠ sB ∧ lB ≠ mB) (hr : rb ≠ dB ∧ rb ≠ sB ∧ rb ≠ mB)
    (h1 : first ≤ 1000) (h2 : N ≤ 999) (h3 : 1 ≤ N) (hin : M.InT L.head L.time L.least) (hle : L.rs.length ≤ N) (htl : L.tail < 4611686018427387904) (s : ByteArray) :
    Calls Tryz.prog 101 #[.pointer (some ⟨lB, 0, none⟩), .string s] w fun e w' => e = .returned (.int .i64 (M.appE n d first N L s)) ∧ DevAt w' dB sB mB n (M.appD n d first N L s) ∧
      ∃ rb', LogAt w' lB rb' dB first N cv (M.appL (M.appE n d first N L s) L s) ∧ (rb' = rb ∨ w.heap.size ≤ rb') ∧ But [dB, mB, lB, rb] w w' := by
  obtain ⟨ra, cap, g, o, rfl, hra⟩ := hL
  by_cases c1 : 110 < s.size
  · have e : M.appE n d first N L s = 3 := if_pos c1
    have e2 : M.appD n d first N L s = d := if_pos c1
    rw [e, e2, M.appL_no (by decide)]
    refine (append_long w _ s c1).mono ?_
    rintro e w' ⟨rfl, rfl⟩
    exact ⟨rfl, hd, _, ⟨ra, cap, g, o, rfl, hra⟩, .inl rfl, But.refl _ _⟩
  · by_cases c2 : N ≤ L.rs.length
    · have e : M.appE n d first N L s = 12 := by unfold M.appE; rw [if_neg c1, if_pos c2]
      have e2 : M.appD n d first N L s = d := by unfold M.appD; rw [if_neg c1, if_pos c2]
      rw [e, e2, M.appL_no (by decide)]
      refine (append_full w g h2 (by omega) s (by omega)).mono ?_
      rintro e w' ⟨rfl, hb⟩
      have hb2 := But.of_below hb
      have hL' : LogAt w lB (blk lB ra) dB first N cv L := ⟨ra, cap, g, o, rfl, hra⟩
      exact ⟨rfl, hd.but hb2 (by simp) (by simp) (by simp), _, hL'.but hb2 (by simp) (by simp), .inl rfl, hb2.mono (by simp)⟩
    · have e : M.appE n d first N L s = M.writeE n d (M.place first N L.tail) (M.secL L.tail ⟨L.time, s⟩) := by unfold M.appE; rw [if_neg c1, if_neg c2]
      have e2 : M.appD n d first N L s = M.writeD n d (M.place first N L.tail) (M.secL L.tail ⟨L.time, s⟩) := by unfold M.appD; rw [if_neg c1, if_neg c2]
      rw [e, e2]
      exact append_do w hd L ra cap g o hra hl hr h1 h2 h3 hin htl s (by omega) (by omega) _ rfl _ rfl _ rfl
end Go.Proofs.YtmcalgnpinolmaaGreat
