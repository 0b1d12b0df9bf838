/-
  PROVED: What is told hangs together: the tail is the head and how many records there are, free is what is left of the ring, and nothing but Trim moves the head. CONDITIONS: none (any ring, any acts, the power gone or not).
-/
import Derived.Test.YtbmgaopdahlkkaaLRun2
namespace Go.Proofs.Ytbmgaopdahlkkaa.logSteps
open Go.ChangeShapes Go.WideShapes Go.ChangeAt Go.RowKit Go.Joins
open Go.ChangeMaps (open_string shut_string)
set_option linter.unusedVariables false
set_option linter.unusedSimpArgs false
set_option maxRecDepth 20000


variable {w0 : World} {dB sB mB n : Nat} {d : M.Dv} {lB rb cB first N a b : Nat} {c : M.Cl} {L : M.Lg} {K : Int}

/-- a log on a device that may die -/
structure Stp (w0 w : World) (dB sB mB n : Nat) (d : M.Dv) (lB rb cB first N a b : Nat) (c : M.Cl) (L : M.Lg) (K : Int) : Prop where
  dv : DevAt w dB sB mB n d
  ca : CellAt w cB dB a b c
  la : LogAt w lB rb dB first N (.pointer (some ⟨cB, 0, none⟩)) L
  sp : Apart dB sB mB lB rb cB
  geo : Geo n first N a b
  h1 : 1 ≤ L.head
  l0 : 0 ≤ L.least
  lt : L.least ≤ L.time
  tm : L.time ≤ K
  ch : M.Chn L.least L.rs L.time
  ln : L.rs.length ≤ N
  tl : L.tail ≤ K
  co : c.o ≤ 1
  g0 : 0 ≤ c.gen
  g1 : c.gen ≤ K
  be : Below w0.heap.size w0 w
  od : w0.heap.size ≤ dB ∧ w0.heap.size ≤ sB ∧ w0.heap.size ≤ mB
  ol : w0.heap.size ≤ lB ∧ w0.heap.size ≤ rb ∧ w0.heap.size ≤ cB

theorem Run.stp {w : World} (h : Run w0 w dB sB mB n d lB rb cB first N a b c L K) : Stp w0 w dB sB mB n d lB rb cB first N a b c L K where
  dv := h.dv
  ca := h.lg.ca
  la := h.lg.la
  sp := h.lg.sp
  geo := h.lg.geo
  h1 := h.lg.gd.ring.h1
  l0 := h.lg.gd.ring.l0
  lt := h.lg.gd.ring.lt
  tm := h.lg.gd.time
  ch := h.lg.gd.ring.chn
  ln := h.lg.gd.ring.len
  tl := h.lg.gd.tail
  co := (gen_in h.lg.gd).2
  g0 := (gen_in h.lg.gd).1
  g1 := h.lg.gd.gen
  be := h.be
  od := h.od
  ol := h.ol
theorem Stp.below {w w' : World} (h : Stp w0 w dB sB mB n d lB rb cB first N a b c L K) (hb : Below w.heap.size w w') : Stp w0 w' dB sB mB n d lB rb cB first N a b c L K :=
  { h with dv := h.dv.but (But.of_below hb) (by simp) (by simp) (by simp), ca := h.ca.but (But.of_below hb) (by simp), la := h.la.but (But.of_below hb) (by simp) (by simp), be := h.be.trans (hb.mono h.be.size) }
theorem Stp.mono {w : World} {K' : Int} (h : Stp w0 w dB sB mB n d lB rb cB first N a b c L K) (hk : K ≤ K') : Stp w0 w dB sB mB n d lB rb cB first N a b c L K' :=
  { h with tm := by have := h.tm; omega, tl := by have := h.tl; omega, g1 := by have := h.g1; omega }
theorem Stp.inT {w : World} (h : Stp w0 w dB sB mB n d lB rb cB first N a b c L K) (hK : K ≤ 1000) : M.InT L.head L.time L.least := by
  have h1 := h.h1
  have h2 := h.l0
  have h3 := h.lt
  have h4 := h.tl
  have h5 := h.tm
  unfold M.Lg.tail at h4
  exact ⟨⟨by omega, by omega⟩, ⟨by omega, by omega⟩, by omega, by omega⟩

theorem barrier_dead {d : M.Dv} (h : M.barrierE d ≠ 0) : (M.barrierD d).dead = true := by
  unfold M.barrierE at h
  unfold M.barrierD
  by_cases hd : d.dead = true
  · rw [if_pos hd]; exact hd
  · rw [if_neg hd] at h ⊢
    unfold M.actE at h
    by_cases hf : d.fuse = 0
    · rw [if_pos hf]; unfold M.actD; rw [if_pos hf]
    · rw [if_neg hf] at h; exact absurd rfl h
theorem write_dead {n : Nat} {d : M.Dv} {i : Nat} (hi : i < n) {l : List UInt8} (hl : l.length ≤ 144) (h : M.writeE n d i l ≠ 0) : (M.writeD n d i l).dead = true := by
  unfold M.writeE at h
  unfold M.writeD
  by_cases hr : M.reach n d i = 0
  · rw [if_pos hr, if_neg (by omega)] at h
    rw [if_pos hr, if_neg (by omega)]
    unfold M.actE at h
    by_cases hf : d.fuse = 0
    · rw [if_pos hf]; unfold M.actD; rw [if_pos hf]
    · rw [if_neg hf] at h; exact absurd rfl h
  · rw [if_neg hr]
    unfold M.reach at hr
    by_cases hd : d.dead = true
    · exact hd
    · rw [if_neg hd, if_neg (by omega)] at hr; exact absurd rfl hr
theorem put_dead {n : Nat} {d : M.Dv} {i : Nat} (hi : i < n) {l : List UInt8} (hl : l.length ≤ 144) (h : M.putE n d i l ≠ 0) : (M.putD n d i l).dead = true := by
  unfold M.putE at h
  unfold M.putD
  by_cases hw : M.writeE n d i l = 0
  · rw [if_pos hw] at h ⊢; exact barrier_dead h
  · rw [if_neg hw] at h ⊢; exact write_dead hi hl h
theorem trim_dead {n : Nat} {d : M.Dv} {i : Nat} (hi : i < n) {l : List UInt8} (hl : l.length ≤ 144) (h : M.trimE n d i l ≠ 0) : (M.trimD n d i l).dead = true := by
  unfold M.trimE at h
  unfold M.trimD
  by_cases hw : M.barrierE d = 0
  · rw [if_pos hw] at h ⊢; exact put_dead hi hl h
  · rw [if_neg hw] at h ⊢; exact barrier_dead h

theorem appE_room {n first N : Nat} {d : M.Dv} {L : M.Lg} {s : ByteArray} (h : M.appE n d first N L s = 0) : L.rs.length < N := by
  unfold M.appE at h
  split at h
  · omega
  · split at h <;> omega

theorem Stp.append {w : World} (h : Stp w0 w dB sB mB n d lB rb cB first N a b c L K) (hK : K ≤ 900) (s : ByteArray) :
    Calls Try.prog 11 #[.pointer (some ⟨lB, 0, none⟩), .string s] w fun e w' => ∃ ev d' rb', e = .returned (.int .i64 ev) ∧ Stp w0 w' dB sB mB n d' lB rb' cB first N a b c (M.appL ev L s) (K + 1) := by
  have hin := h.inT (by omega)
  have hn := h.dv.n512
  have g1 := h.geo.n2
  have g2 := h.geo.fn
  have htl := h.tl
  have hsp := h.sp
  have hlc := h.la.lt
  refine (append_any w h.dv L h.la ⟨h.sp.l1.1, h.sp.l1.2.1, h.sp.l1.2.2.1⟩ ⟨h.sp.r1.1, h.sp.r1.2.1, h.sp.r1.2.2.1⟩ (by omega) (by omega) (by omega) hin h.ln (by omega) s).mono ?_
  rintro e w' ⟨rfl, hd', rb', hla', hrb, hb⟩
  have hsp' : Apart dB sB mB lB rb' cB := ⟨hsp.c1, hsp.l1, by
    rcases hrb with z | z
    · rw [z]; exact hsp.r1
    · have := h.dv.ltD; have := h.dv.lt; have := h.dv.pend.lt; have := h.ca.lt; omega⟩
  refine ⟨M.appE n d first N L s, _, rb', rfl, { dv := hd', ca := h.ca.but hb (by have := hsp.c1; have := hsp.l1; have := hsp.r1; simp; omega), la := hla', sp := hsp', geo := h.geo, h1 := ?_, l0 := ?_, lt := ?_, tm := ?_, ch := ?_, ln := ?_, tl := ?_, co := h.co, g0 := h.g0, g1 := by have := h.g1; omega, be := h.be.trans (hb.to_below (by have := h.od; have := h.ol; simp; omega) h.be.size), od := h.od, ol := ⟨h.ol.1, by have := h.be.size; have := h.ol; omega, h.ol.2.2⟩ }⟩
  all_goals
    by_cases he : M.appE n d first N L s = 0
    · rw [he, M.appL_ok]
      have h1 := h.h1
      have h2 := h.l0
      have h3 := h.lt
      have h4 := h.tm
      first
        | exact h1
        | exact h2
        | exact h3
        | (show L.time ≤ K + 1; omega)
        | exact h.ch.snoc h3 s
        | (have := appE_room he; simp [M.Lg.add]; omega)
        | (rw [M.add_tail]; omega)
    · rw [M.appL_no he]
      have h1 := h.h1
      have h2 := h.l0
      have h3 := h.lt
      have h4 := h.tm
      first
        | exact h1
        | exact h2
        | exact h3
        | (show L.time ≤ K + 1; omega)
        | exact h.ch
        | exact h.ln
        | omega

theorem Stp.sync {w : World} (h : Stp w0 w dB sB mB n d lB rb cB first N a b c L K) :
    Calls Try.prog 19 #[.pointer (some ⟨lB, 0, none⟩)] w fun e w' => ∃ ev d', e = .returned (.int .i64 ev) ∧ Stp w0 w' dB sB mB n d' lB rb cB first N a b c L K := by
  obtain ⟨ra, cap, g, o, e, hra⟩ := h.la
  refine (sync_any w h.dv g).mono ?_
  rintro e w' ⟨rfl, hd', hb⟩
  have h1 := h.sp.c1
  have h2 := h.sp.l1
  have h3 := h.sp.r1
  exact ⟨_, _, rfl, { h with dv := hd', ca := h.ca.but hb (by simp; omega), la := h.la.but hb (by simp; omega) (by simp; omega), be := h.be.trans (hb.to_below (by have := h.od; simp; omega) h.be.size) }⟩

theorem Stp.fuse {w : World} (h : Stp w0 w dB sB mB n d lB rb cB first N a b c L K) (k : Int) (hk1 : -9223372036854775808 ≤ k) (hk2 : k ≤ 9223372036854775807) :
    Calls Try.prog 25 #[.pointer (some ⟨dB, 0, none⟩), .int .i64 k] w fun e w' => ∃ d', e = .returned (.tuple #[]) ∧ Stp w0 w' dB sB mB n d' lB rb cB first N a b c L K := by
  refine (fuse_any w h.dv k hk1 hk2).mono ?_
  rintro e w' ⟨rfl, hd', hb⟩
  have h1 := h.sp.c1
  have h2 := h.sp.l1
  have h3 := h.sp.r1
  exact ⟨_, rfl, { h with dv := hd', ca := h.ca.but hb (by simp; omega), la := h.la.but hb (by simp; omega) (by simp; omega), be := h.be.trans (hb.to_below (by have := h.od; simp; omega) h.be.size) }⟩

theorem Stp.trim {w : World} (h : Stp w0 w dB sB mB n d lB rb cB first N a b c L K) (hK : K ≤ 900) (m : Nat) {x : Int} (hx : x = L.head + (m : Int)) :
    Calls Try.prog 12 #[.pointer (some ⟨lB, 0, none⟩), .int .i64 x] w fun e w' => ∃ ev d' c', e = .returned (.int .i64 ev) ∧ Stp w0 w' dB sB mB n d' lB rb cB first N a b c' (M.trimL ev L m) (K + 1) ∧
      (M.trimL ev L m).tail = L.tail ∧ (ev ≠ 0 → L.head + (m : Int) ≤ L.tail → d'.dead = true) := by
  subst hx
  have hin := h.inT (by omega)
  have hn := h.dv.n512
  by_cases hm : m ≤ L.rs.length
  · have hch := h.ch
    have e1 : (L.cut m).tail = L.tail := M.cut_tail L hm
    have c1 : (M.lastT L.least (L.rs.take m)) ≤ L.time := M.lastT_le (hch.take m) h.lt
    have c2 : L.least ≤ M.lastT L.least (L.rs.take m) := M.lastT_ge (hch.take m)
    have hl0 := h.l0
    have hh1 := h.h1
    have htl := h.tl
    have htm := h.tm
    have hg0 := h.g0
    have hg1 := h.g1
    have hin2 : M.InT (L.cut m).head (L.cut m).time (L.cut m).least := by
      unfold M.Lg.tail at htl
      refine ⟨⟨?_, ?_⟩, ⟨?_, ?_⟩, ?_, ?_⟩
      · show 1 ≤ L.head + (m : Int); omega
      · show L.head + (m : Int) ≤ _; omega
      · show 0 ≤ L.time; have := h.lt; omega
      · show L.time ≤ _; omega
      · show 0 ≤ M.lastT L.least (L.rs.take m); omega
      · show M.lastT L.least (L.rs.take m) ≤ _; omega
    have hpos : M.pos c.o a b < n := by have := h.geo.an; have := h.geo.bn; unfold M.pos; split <;> omega
    have hmay : M.MayS (c.gen + 1) (M.txtL (L.cut m).head (L.cut m).time (L.cut m).least) := ⟨by omega, by omega, by have := M.txtL_size (L.cut m).head (L.cut m).time (L.cut m).least; omega⟩
    have hsl : (M.slot (c.gen + 1) (M.txtL (L.cut m).head (L.cut m).time (L.cut m).least)).length ≤ 144 := by have := M.slot_small hmay; omega
    refine (trim_any w h.dv cB a b c h.ca L h.la h.sp.c1 h.sp.l1 h.sp.r1 h.co ⟨hg0, by omega⟩ ⟨by have := h.geo.an; omega, by have := h.geo.bn; omega⟩ hin m hm hin2 _ rfl _ rfl _ rfl).mono ?_
    rintro e w' ⟨rfl, hd', hc', hl', hb⟩
    have hbe := h.be.trans (hb.to_below (by have := h.od; have := h.ol; simp; omega) h.be.size)
    refine ⟨_, _, M.putC (M.trimE n d (M.pos c.o a b) (M.slot (c.gen + 1) (M.txtL (L.cut m).head (L.cut m).time (L.cut m).least))) c (M.txtL (L.cut m).head (L.cut m).time (L.cut m).least), rfl, ?_, ?_, fun he _ => trim_dead hpos hsl he⟩
    · by_cases he : M.trimE n d (M.pos c.o a b) (M.slot (c.gen + 1) (M.txtL (L.cut m).head (L.cut m).time (L.cut m).least)) = 0
      · rw [he] at hc' hl' ⊢
        rw [M.putC_ok] at hc' ⊢
        rw [M.trimL_ok] at hl' ⊢
        exact { dv := hd', ca := hc', la := hl', sp := h.sp, geo := h.geo, h1 := hin2.1.1, l0 := hin2.2.2.1, lt := c1, tm := by show L.time ≤ K + 1; omega, ch := hch.drop m, ln := by have := h.ln; simp [M.Lg.cut]; omega, tl := by rw [e1]; omega, co := by show 1 - c.o ≤ 1; omega, g0 := by show 0 ≤ c.gen + 1; omega, g1 := by show c.gen + 1 ≤ K + 1; omega, be := hbe, od := h.od, ol := h.ol }
      · rw [M.putC_no he] at hc' ⊢
        rw [M.trimL_no he] at hl' ⊢
        exact ({ h with dv := hd', ca := hc', la := hl', be := hbe } : Stp w0 w' dB sB mB n _ lB rb cB first N a b c L K).mono (by omega)
    · unfold M.trimL; split
      · exact e1
      · rfl
  · obtain ⟨ra, cap, g, o, e, hra⟩ := h.la
    refine (trim_bad w g ⟨by have := hin.1; omega, hin.1.2⟩ o.2 (L.head + (m : Int)) (.inr (by omega))).mono ?_
    rintro e w' ⟨rfl, hb⟩
    refine ⟨1, d, c, rfl, ?_, rfl, fun _ hk => ?_⟩
    · rw [M.trimL_no (by decide)]; exact (h.below hb).mono (by omega)
    · unfold M.Lg.tail at hk; omega

theorem Stp.head {w : World} (h : Stp w0 w dB sB mB n d lB rb cB first N a b c L K) : Calls Try.prog 13 #[.pointer (some ⟨lB, 0, none⟩)] w fun e w' => e = .returned (.int .i64 L.head) ∧ w = w' := by
  obtain ⟨ra, cap, g, o, e, hra⟩ := h.la
  exact head_any w g
theorem Stp.tail {w : World} (h : Stp w0 w dB sB mB n d lB rb cB first N a b c L K) (hK : K ≤ 1000) : Calls Try.prog 23 #[.pointer (some ⟨lB, 0, none⟩)] w fun e w' => e = .returned (.int .i64 L.tail) ∧ ∃ j, w' = w.drewN j := by
  obtain ⟨ra, cap, g, o, e, hra⟩ := h.la
  have hin := h.inT hK
  exact tail_any w g ⟨by have := hin.1; omega, hin.1.2⟩ o.2
theorem Stp.free {w : World} (h : Stp w0 w dB sB mB n d lB rb cB first N a b c L K) : Calls Try.prog 16 #[.pointer (some ⟨lB, 0, none⟩)] w fun e w' => e = .returned (.int .i64 ((N : Int) - L.rs.length)) ∧ ∃ j, w' = w.drewN j := by
  obtain ⟨ra, cap, g, o, e, hra⟩ := h.la
  have := h.geo.fn
  have := h.geo.n5
  exact free_any w g (by omega) o.2

/-- what it tells, in each world behind -/
theorem Stp.tells {w : World} (h : Stp w0 w dB sB mB n d lB rb cB first N a b c L K) (hK : K ≤ 1000) {hv tv fv : Int} {kv : Nat} (e1 : L.head = hv) (e2 : L.tail = tv) (e3 : L.rs.length = kv) (e4 : (N : Int) - (kv : Int) = fv) :
    (∀ w', Below w.heap.size w w' → Calls Try.prog 13 #[.pointer (some ⟨lB, 0, none⟩)] w' fun e w'' => e = .returned (.int .i64 hv) ∧ Below w.heap.size w w'') ∧
    (∀ w', Below w.heap.size w w' → Calls Try.prog 23 #[.pointer (some ⟨lB, 0, none⟩)] w' fun e w'' => e = .returned (.int .i64 tv) ∧ Below w.heap.size w w'') ∧
    (∀ w', Below w.heap.size w w' → Calls Try.prog 15 #[.pointer (some ⟨lB, 0, none⟩)] w' fun e w'' => ∃ aR cR, e = .returned (.slice aR kv cR) ∧ Below w.heap.size w w'') ∧
    (∀ w', Below w.heap.size w w' → Calls Try.prog 16 #[.pointer (some ⟨lB, 0, none⟩)] w' fun e w'' => e = .returned (.int .i64 fv) ∧ Below w.heap.size w w'') ∧
    (∀ w', Below w.heap.size w w' → Calls Try.prog 24 #[.pointer (some ⟨dB, 0, none⟩)] w' fun e w'' => e = .returned (.bool d.dead) ∧ Below w.heap.size w w'') := by
  subst e1 e2 e3 e4
  refine ⟨fun w' hb => ?_, fun w' hb => ?_, fun w' hb => ?_, fun w' hb => ?_, fun w' hb => ?_⟩
  · refine (h.below hb).head.mono ?_
    rintro e w'' ⟨rfl, rfl⟩
    exact ⟨rfl, hb⟩
  · refine ((h.below hb).tail hK).mono ?_
    rintro e w'' ⟨rfl, j, rfl⟩
    exact ⟨rfl, below_dn hb j⟩
  · refine (records_any w' L (h.below hb).la).mono ?_
    rintro e w'' ⟨aR, cR, rfl, _, hb2⟩
    exact ⟨aR, cR, rfl, hb.trans (hb2.mono hb.size)⟩
  · refine (h.below hb).free.mono ?_
    rintro e w'' ⟨rfl, j, rfl⟩
    exact ⟨rfl, below_dn hb j⟩
  · refine (dead_any w' (h.below hb).dv).mono ?_
    rintro e w'' ⟨rfl, rfl⟩
    exact ⟨rfl, hb⟩

set_option maxHeartbeats 4000000 in
theorem walk (x0 : Int) (a1 : Option Addr) (n1 c1 : Nat) (l1 : List A) (w : World) (w0 : (Lit.int .u8 x0).wf = true) (w1 : Acts w a1 n1 c1 l1) :
    Calls Try.prog 6 #[.int .u8 x0, .slice a1 n1 c1] w fun e w' => e = .returned (.bool true) ∧ Below w.heap.size w w' := by
  obtain ⟨r, hr, hrm⟩ := u8_mod x0 19 (by decide) w0 (kI := 19) rfl
  have HA := Lib.hid (awake_any w)
  have HW := Lib.hid w1
  have hrI : (r : Int) < 19 := by omega
  have hr0 : (0 : Int) ≤ (r : Int) := by omega
  have Hr := Lib.hid hr
  clear w0 w1 hr
  go_enter Try.func6, Try.ntmps6
  go_wp2_with (first
    | (go_at_call 8; refine HA.out.mono ?_; rintro e w1 ⟨rfl, hb1⟩; have HN := Lib.hid (run_new (w0 := w) w1 hb1 (r + 4) (by have := Hr.out; omega) (x := (r : Int) + 2 + 2) (by omega)); clear hb1)
    | (go_at_call 9; with_reducible refine HN.out.mono ?_; rintro e w2 ⟨dB, sB, mB, rfl, hD, _, _⟩
       have HO := Lib.hid (run_open w2 hD (first := 2) (N := r + 2) (a := 0) (b := 1) ⟨by omega, by omega, by omega, by omega, by omega, by omega, by omega, by have := Hr.out; omega⟩ (fun j _ => rfl) (x1 := 2) (x2 := (r : Int) + 2) (x3 := 0) (x4 := 1) rfl (by omega) rfl rfl)
       clear hD)
    | (go_at_call 10; with_reducible refine HO.out.mono ?_; rintro e w3 ⟨lB, cB, rb0, d0, c0, rfl, hR0, _, _, _⟩
       have HS0 := Lib.hid (Run.stp hR0)
       clear hR0))
  clear HN HO HA
  go_loopw [9] (fun i wr => ∃ (k : Nat) (d : M.Dv) (rb : Nat) (c : M.Cl) (L : M.Lg), k ≤ n1 ∧ k ≤ 60 ∧ i = .int .i64 k ∧ Stp w wr dB sB mB (r + 4) d lB rb cB 2 (r + 2) 0 1 c L (2 + k)) (fun i _ => 60 - (intOf i).toNat)
  case atStart => exact ⟨0, d0, rb0, c0, _, by omega, by omega, rfl, HS0.out.mono (by omega)⟩
  case round =>
    obtain ⟨k, d, rb, c, L, hkn, hk6, rfl, hS⟩ := hrel
    have HS := Lib.hid hS
    have hk0 : (0 : Int) ≤ (k : Int) := by omega
    clear hS HS0
    by_cases hend : k = n1
    · have hge : ¬ ((k : Int) < (n1 : Int)) := by omega
      clear hend
      go_wp2_with fail
      go_ret
      exact ⟨rfl, HS.out.be⟩
    · have hlt : (k : Int) < (n1 : Int) := by omega
      by_cases h60 : k = 60
      · have hge : ¬ ((k : Int) < 60) := by omega
        clear h60 hend
        go_wp2_with fail
        go_ret
        exact ⟨rfl, HS.out.be⟩
      · have hlt6 : (k : Int) < 60 := by omega
        obtain ⟨b, off, x, rfl, hx, hok0, hok, g1, g2, g3, g4, hbl⟩ := acts_at HW.out HS.out.be (show k < n1 by omega)
        have HKn : Hid (k < n1 ∧ k < 60) := Lib.hid ⟨by omega, by omega⟩
        have HOk := Lib.hid (And.intro hok0.i1 hok0.i2)
        clear hx hok0 hok hbl hend h60
        have HLg : Hid (∀ w', Calls Try.prog 18 #[.agg #[.int .i64 x.kind, .int .i64 x.i, .string x.s, .slice x.aL x.k x.cL]] w' fun e w'' => e = .returned (.bool (largeB x)) ∧ Below w'.heap.size w' w'') := Lib.hid (fun w' => large_any w' x)
        cases hlg : largeB x with
        | true =>
          rw [hlg] at HLg
          clear hlg
          go_wp2_with (go_at_call 18; refine (HLg.out _).mono ?_; rintro e w4 ⟨rfl, hb4⟩; have HB4 := Lib.hid hb4; clear hb4)
          go_ret
          exact ⟨rfl, HS.out.be.trans ((((Below.refl _ _).alloc (Nat.le_refl _) _).trans (HB4.out.mono (by simp))).mono HS.out.be.size)⟩
        | false =>
          rw [hlg] at HLg
          clear hlg
          obtain ⟨m, hm32, hm⟩ := and31 x.i
          have Hm := Lib.hid hm32
          have hmI : (m : Int) < 32 := by omega
          have hm0 : (0 : Int) ≤ (m : Int) := by omega
          clear hm32
          by_cases c0 : x.kind = 0
          · have d0 : (x.kind == 0) = true := by simpa using c0
            clear c0
            obtain ⟨hd, ehd⟩ : ∃ hd, L.head = hd := ⟨_, rfl⟩
            obtain ⟨tl, etl⟩ : ∃ tl, L.tail = tl := ⟨_, rfl⟩
            have HEq := Lib.hid (And.intro ehd etl)
            have hbnd : 1 ≤ hd ∧ hd ≤ tl ∧ tl ≤ 100 := ⟨by rw [← ehd]; exact HS.out.h1, by rw [← ehd, ← etl]; unfold M.Lg.tail; omega, by rw [← etl]; have := HS.out.tl; have := HKn.out; omega⟩
            obtain ⟨hd1, hd2, tl1⟩ := hbnd
            have htt : (tl == tl + 1) = false := by rw [beq_eq_false_iff_ne]; omega
            clear ehd etl
            go_wp2_with (first
              | (go_at_call 18; refine (HLg.out _).mono ?_; rintro e w4 ⟨rfl, hb4⟩
                 have HO4 : Hid (Below wr.heap.size wr w4) := Lib.hid (((Below.refl _ _).alloc (Nat.le_refl _) _).trans (hb4.mono (by simp)))
                 have HZ4 : Hid (wr.heap.size < w4.heap.size) := Lib.hid (by have := hb4.size; simp at this; omega)
                 obtain ⟨hx0, hx1, hx2⟩ := act_cells x (hb4.mono (by simp))
                 have HS4 := Lib.hid (HS.out.below HO4.out)
                 clear hb4)
              | (go_at_call 13; with_reducible refine (HS4.out.tells (by have := HKn.out; omega) HEq.out.1 HEq.out.2 rfl rfl |>.1 w4 (Below.refl _ _)).mono ?_; rintro e w5 ⟨rfl, hb5⟩
                 have HS5 := Lib.hid (HS4.out.below hb5)
                 have HO5 : Hid (Below w4.heap.size w4 w5) := Lib.hid hb5
                 clear hb5)
              | (go_at_call 23; with_reducible refine (HS5.out.tells (by have := HKn.out; omega) HEq.out.1 HEq.out.2 rfl rfl |>.2.1 w5 (Below.refl _ _)).mono ?_; rintro e w6 ⟨rfl, hb6⟩
                 have HS6 := Lib.hid (HS5.out.below hb6)
                 have HO6 : Hid (Below w4.heap.size w4 w6) := Lib.hid (HO5.out.trans (hb6.mono HO5.out.size))
                 have hy0 : w6.cell? ⟨wr.heap.size, 0, none⟩ = some (.int .i64 x.kind) := by rw [HO6.out.cell (p := ⟨wr.heap.size, 0, none⟩) HZ4.out]; exact hx0
                 have hy1 : w6.cell? ⟨wr.heap.size, 1, none⟩ = some (.int .i64 x.i) := by rw [HO6.out.cell (p := ⟨wr.heap.size, 1, none⟩) HZ4.out]; exact hx1
                 have hy2 : w6.cell? ⟨wr.heap.size, 2, none⟩ = some (.string x.s) := by rw [HO6.out.cell (p := ⟨wr.heap.size, 2, none⟩) HZ4.out]; exact hx2
                 clear hb6)
              | (go_at_call 11; refine (HS6.out.append (by have := HKn.out; omega) x.s).mono ?_; rintro e w7 ⟨ev, d7, rb7, rfl, hS7⟩; have HS7 := Lib.hid hS7; clear hS7))
            by_cases hev : ev = 0
            · subst hev
              rw [M.appL_ok] at HS7
              have HE1 : Hid ((L.add x.s).head = hd) := Lib.hid HEq.out.1
              have HE2 : Hid ((L.add x.s).tail = tl + 1) := Lib.hid (by rw [M.add_tail, HEq.out.2])
              obtain ⟨k9, ek9⟩ : ∃ k9, (L.add x.s).rs.length = k9 := ⟨_, rfl⟩
              have hk9 : (k9 : Int) ≤ 1000 := by have := HS7.out.ln; have := Hr.out; omega
              have hk90 : (0 : Int) ≤ (k9 : Int) := by omega
              have e31 : ((tl + 1) != (hd) + (k9 : Int)) = false := by
                have h1 : (L.add x.s).head = hd := HE1.out
                have h2 : (L.add x.s).tail = tl + 1 := HE2.out
                unfold M.Lg.tail at h2
                rw [h1, ek9] at h2
                rw [h2]; simp
              have HT9 := Lib.hid (HS7.out.tells (by have := HKn.out; omega) HE1.out HE2.out ek9 (fv := (r : Int) + 2 - (k9 : Int)) (by omega))
              have h1v : 1 ≤ hd := by rw [← HE1.out]; exact HS7.out.h1
              clear ek9
              obtain ⟨CH9', CT9', CR9', CF9', CD9'⟩ := HT9.out
              have CH9 := Lib.hid CH9'
              have CT9 := Lib.hid CT9'
              have CR9 := Lib.hid CR9'
              have CF9 := Lib.hid CF9'
              have CD9 := Lib.hid CD9'
              have hq9 := Below.refl w7.heap.size w7
              clear CH9' CT9' CR9' CF9' CD9' HT9
              go_wp2_with (first
                | (go_at_call 13; with_reducible refine (CH9.out _ hq9).mono ?_; rintro e wq ⟨rfl, hq9⟩)
                | (go_at_call 23; with_reducible refine (CT9.out _ hq9).mono ?_; rintro e wq ⟨rfl, hq9⟩)
                | (go_at_call 15; with_reducible refine (CR9.out _ hq9).mono ?_; rintro e wq ⟨aR, cR, rfl, hq9⟩)
                | (go_at_call 16; with_reducible refine (CF9.out _ hq9).mono ?_; rintro e wq ⟨rfl, hq9⟩)
                | (go_at_call 24; with_reducible refine (CD9.out _ hq9).mono ?_; rintro e wq ⟨rfl, hq9⟩))
              go_roundw
              case rel => exact ⟨k + 1, _, _, _, _, by have := HKn.out; omega, by have := HKn.out; omega, by go_num, (HS7.out.below hq9).mono (by omega)⟩
              case measure => have := HKn.out; simp [intOf]; omega
            · have hev0 : (ev == 0) = false := by simpa using hev
              rw [M.appL_no hev] at HS7
              clear hev
              have HE1 : Hid (L.head = hd) := Lib.hid HEq.out.1
              have HE2 : Hid (L.tail = tl) := Lib.hid HEq.out.2
              obtain ⟨k9, ek9⟩ : ∃ k9, L.rs.length = k9 := ⟨_, rfl⟩
              have hk9 : (k9 : Int) ≤ 1000 := by have := HS7.out.ln; have := Hr.out; omega
              have hk90 : (0 : Int) ≤ (k9 : Int) := by omega
              have e31 : ((tl) != (hd) + (k9 : Int)) = false := by
                have h1 : L.head = hd := HE1.out
                have h2 : L.tail = tl := HE2.out
                unfold M.Lg.tail at h2
                rw [h1, ek9] at h2
                rw [h2]; simp
              have HT9 := Lib.hid (HS7.out.tells (by have := HKn.out; omega) HE1.out HE2.out ek9 (fv := (r : Int) + 2 - (k9 : Int)) (by omega))
              have h1v : 1 ≤ hd := by rw [← HE1.out]; exact HS7.out.h1
              clear ek9
              obtain ⟨CH9', CT9', CR9', CF9', CD9'⟩ := HT9.out
              have CH9 := Lib.hid CH9'
              have CT9 := Lib.hid CT9'
              have CR9 := Lib.hid CR9'
              have CF9 := Lib.hid CF9'
              have CD9 := Lib.hid CD9'
              have hq9 := Below.refl w7.heap.size w7
              clear CH9' CT9' CR9' CF9' CD9' HT9
              go_wp2_with (first
                | (go_at_call 13; with_reducible refine (CH9.out _ hq9).mono ?_; rintro e wq ⟨rfl, hq9⟩)
                | (go_at_call 23; with_reducible refine (CT9.out _ hq9).mono ?_; rintro e wq ⟨rfl, hq9⟩)
                | (go_at_call 15; with_reducible refine (CR9.out _ hq9).mono ?_; rintro e wq ⟨aR, cR, rfl, hq9⟩)
                | (go_at_call 16; with_reducible refine (CF9.out _ hq9).mono ?_; rintro e wq ⟨rfl, hq9⟩)
                | (go_at_call 24; with_reducible refine (CD9.out _ hq9).mono ?_; rintro e wq ⟨rfl, hq9⟩))
              go_roundw
              case rel => exact ⟨k + 1, _, _, _, _, by have := HKn.out; omega, by have := HKn.out; omega, by go_num, (HS7.out.below hq9).mono (by omega)⟩
              case measure => have := HKn.out; simp [intOf]; omega
          · have d0 : (x.kind == 0) = false := by simpa using c0
            clear c0
            by_cases c1 : x.kind = 1
            · have d1 : (x.kind == 1) = true := by simpa using c1
              clear c1
              obtain ⟨hd, ehd⟩ : ∃ hd, L.head = hd := ⟨_, rfl⟩
              obtain ⟨tl, etl⟩ : ∃ tl, L.tail = tl := ⟨_, rfl⟩
              have HEq := Lib.hid (And.intro ehd etl)
              have hbnd : 1 ≤ hd ∧ hd ≤ tl ∧ tl ≤ 100 := ⟨by rw [← ehd]; exact HS.out.h1, by rw [← ehd, ← etl]; unfold M.Lg.tail; omega, by rw [← etl]; have := HS.out.tl; have := HKn.out; omega⟩
              obtain ⟨hd1, hd2, tl1⟩ := hbnd
              have htt : (tl == tl + 1) = false := by rw [beq_eq_false_iff_ne]; omega
              clear ehd etl
              go_wp2_with (first
                | (go_at_call 18; refine (HLg.out _).mono ?_; rintro e w4 ⟨rfl, hb4⟩
                   have HO4 : Hid (Below wr.heap.size wr w4) := Lib.hid (((Below.refl _ _).alloc (Nat.le_refl _) _).trans (hb4.mono (by simp)))
                   have HZ4 : Hid (wr.heap.size < w4.heap.size) := Lib.hid (by have := hb4.size; simp at this; omega)
                   obtain ⟨hx0, hx1, hx2⟩ := act_cells x (hb4.mono (by simp))
                   have HS4 := Lib.hid (HS.out.below HO4.out)
                   clear hb4)
                | (go_at_call 13; with_reducible refine (HS4.out.tells (by have := HKn.out; omega) HEq.out.1 HEq.out.2 rfl rfl |>.1 w4 (Below.refl _ _)).mono ?_; rintro e w5 ⟨rfl, hb5⟩
                   have HS5 := Lib.hid (HS4.out.below hb5)
                   have HO5 : Hid (Below w4.heap.size w4 w5) := Lib.hid hb5
                   clear hb5)
                | (go_at_call 23; with_reducible refine (HS5.out.tells (by have := HKn.out; omega) HEq.out.1 HEq.out.2 rfl rfl |>.2.1 w5 (Below.refl _ _)).mono ?_; rintro e w6 ⟨rfl, hb6⟩
                   have HS6 := Lib.hid (HS5.out.below hb6)
                   have HO6 : Hid (Below w4.heap.size w4 w6) := Lib.hid (HO5.out.trans (hb6.mono HO5.out.size))
                   have hy0 : w6.cell? ⟨wr.heap.size, 0, none⟩ = some (.int .i64 x.kind) := by rw [HO6.out.cell (p := ⟨wr.heap.size, 0, none⟩) HZ4.out]; exact hx0
                   have hy1 : w6.cell? ⟨wr.heap.size, 1, none⟩ = some (.int .i64 x.i) := by rw [HO6.out.cell (p := ⟨wr.heap.size, 1, none⟩) HZ4.out]; exact hx1
                   have hy2 : w6.cell? ⟨wr.heap.size, 2, none⟩ = some (.string x.s) := by rw [HO6.out.cell (p := ⟨wr.heap.size, 2, none⟩) HZ4.out]; exact hx2
                   clear hb6)
                | (go_at_call 19; refine HS6.out.sync.mono ?_; rintro e w7 ⟨ev, d7, rfl, hS7⟩; have HS7 := Lib.hid hS7; clear hS7))
              have HE1 : Hid (L.head = hd) := Lib.hid HEq.out.1
              have HE2 : Hid (L.tail = tl) := Lib.hid HEq.out.2
              obtain ⟨k9, ek9⟩ : ∃ k9, L.rs.length = k9 := ⟨_, rfl⟩
              have hk9 : (k9 : Int) ≤ 1000 := by have := HS7.out.ln; have := Hr.out; omega
              have hk90 : (0 : Int) ≤ (k9 : Int) := by omega
              have e31 : ((tl) != (hd) + (k9 : Int)) = false := by
                have h1 : L.head = hd := HE1.out
                have h2 : L.tail = tl := HE2.out
                unfold M.Lg.tail at h2
                rw [h1, ek9] at h2
                rw [h2]; simp
              have HT9 := Lib.hid (HS7.out.tells (by have := HKn.out; omega) HE1.out HE2.out ek9 (fv := (r : Int) + 2 - (k9 : Int)) (by omega))
              have h1v : 1 ≤ hd := by rw [← HE1.out]; exact HS7.out.h1
              clear ek9
              obtain ⟨CH9', CT9', CR9', CF9', CD9'⟩ := HT9.out
              have CH9 := Lib.hid CH9'
              have CT9 := Lib.hid CT9'
              have CR9 := Lib.hid CR9'
              have CF9 := Lib.hid CF9'
              have CD9 := Lib.hid CD9'
              have hq9 := Below.refl w7.heap.size w7
              clear CH9' CT9' CR9' CF9' CD9' HT9
              go_wp2_with (first
                | (go_at_call 13; with_reducible refine (CH9.out _ hq9).mono ?_; rintro e wq ⟨rfl, hq9⟩)
                | (go_at_call 23; with_reducible refine (CT9.out _ hq9).mono ?_; rintro e wq ⟨rfl, hq9⟩)
                | (go_at_call 15; with_reducible refine (CR9.out _ hq9).mono ?_; rintro e wq ⟨aR, cR, rfl, hq9⟩)
                | (go_at_call 16; with_reducible refine (CF9.out _ hq9).mono ?_; rintro e wq ⟨rfl, hq9⟩)
                | (go_at_call 24; with_reducible refine (CD9.out _ hq9).mono ?_; rintro e wq ⟨rfl, hq9⟩))
              go_roundw
              case rel => exact ⟨k + 1, _, _, _, _, by have := HKn.out; omega, by have := HKn.out; omega, by go_num, (HS7.out.below hq9).mono (by omega)⟩
              case measure => have := HKn.out; simp [intOf]; omega
            · have d1 : (x.kind == 1) = false := by simpa using c1
              clear c1
              by_cases c2 : x.kind = 2
              · have d2 : (x.kind == 2) = true := by simpa using c2
                clear c2
                obtain ⟨hd, ehd⟩ : ∃ hd, L.head = hd := ⟨_, rfl⟩
                obtain ⟨tl, etl⟩ : ∃ tl, L.tail = tl := ⟨_, rfl⟩
                have HEq := Lib.hid (And.intro ehd etl)
                have hbnd : 1 ≤ hd ∧ hd ≤ tl ∧ tl ≤ 100 := ⟨by rw [← ehd]; exact HS.out.h1, by rw [← ehd, ← etl]; unfold M.Lg.tail; omega, by rw [← etl]; have := HS.out.tl; have := HKn.out; omega⟩
                obtain ⟨hd1, hd2, tl1⟩ := hbnd
                have htt : (tl == tl + 1) = false := by rw [beq_eq_false_iff_ne]; omega
                clear ehd etl
                go_wp2_with (first
                  | (go_at_call 18; refine (HLg.out _).mono ?_; rintro e w4 ⟨rfl, hb4⟩
                     have HO4 : Hid (Below wr.heap.size wr w4) := Lib.hid (((Below.refl _ _).alloc (Nat.le_refl _) _).trans (hb4.mono (by simp)))
                     have HZ4 : Hid (wr.heap.size < w4.heap.size) := Lib.hid (by have := hb4.size; simp at this; omega)
                     obtain ⟨hx0, hx1, hx2⟩ := act_cells x (hb4.mono (by simp))
                     have HS4 := Lib.hid (HS.out.below HO4.out)
                     clear hb4)
                  | (go_at_call 13; with_reducible refine (HS4.out.tells (by have := HKn.out; omega) HEq.out.1 HEq.out.2 rfl rfl |>.1 w4 (Below.refl _ _)).mono ?_; rintro e w5 ⟨rfl, hb5⟩
                     have HS5 := Lib.hid (HS4.out.below hb5)
                     have HO5 : Hid (Below w4.heap.size w4 w5) := Lib.hid hb5
                     clear hb5)
                  | (go_at_call 23; with_reducible refine (HS5.out.tells (by have := HKn.out; omega) HEq.out.1 HEq.out.2 rfl rfl |>.2.1 w5 (Below.refl _ _)).mono ?_; rintro e w6 ⟨rfl, hb6⟩
                     have HS6 := Lib.hid (HS5.out.below hb6)
                     have HO6 : Hid (Below w4.heap.size w4 w6) := Lib.hid (HO5.out.trans (hb6.mono HO5.out.size))
                     have hy0 : w6.cell? ⟨wr.heap.size, 0, none⟩ = some (.int .i64 x.kind) := by rw [HO6.out.cell (p := ⟨wr.heap.size, 0, none⟩) HZ4.out]; exact hx0
                     have hy1 : w6.cell? ⟨wr.heap.size, 1, none⟩ = some (.int .i64 x.i) := by rw [HO6.out.cell (p := ⟨wr.heap.size, 1, none⟩) HZ4.out]; exact hx1
                     have hy2 : w6.cell? ⟨wr.heap.size, 2, none⟩ = some (.string x.s) := by rw [HO6.out.cell (p := ⟨wr.heap.size, 2, none⟩) HZ4.out]; exact hx2
                     clear hb6)
                  | (go_at_call 12; refine (HS6.out.trim (by have := HKn.out; omega) m (x := hd + (m : Int)) (by rw [HEq.out.1])).mono ?_; rintro e w7 ⟨ev, d7, c7, rfl, hS7, ht7, hdd⟩; have HS7 := Lib.hid hS7; have HT7 := Lib.hid ht7; have HDd := Lib.hid hdd; clear hS7 ht7 hdd))
                by_cases hev : ev = 0
                · subst hev
                  rw [M.trimL_ok] at HS7
                  have HE1 : Hid ((L.cut m).head = hd + (m : Int)) := Lib.hid (by show L.head + (m : Int) = _; rw [HEq.out.1])
                  have HE2 : Hid ((L.cut m).tail = tl) := Lib.hid (by have := HT7.out; rw [M.trimL_ok] at this; rw [this]; exact HEq.out.2)
                  obtain ⟨k9, ek9⟩ : ∃ k9, (L.cut m).rs.length = k9 := ⟨_, rfl⟩
                  have hk9 : (k9 : Int) ≤ 1000 := by have := HS7.out.ln; have := Hr.out; omega
                  have hk90 : (0 : Int) ≤ (k9 : Int) := by omega
                  have e31 : ((tl) != (hd + (m : Int)) + (k9 : Int)) = false := by
                    have h1 : (L.cut m).head = hd + (m : Int) := HE1.out
                    have h2 : (L.cut m).tail = tl := HE2.out
                    unfold M.Lg.tail at h2
                    rw [h1, ek9] at h2
                    rw [h2]; simp
                  have HT9 := Lib.hid (HS7.out.tells (by have := HKn.out; omega) HE1.out HE2.out ek9 (fv := (r : Int) + 2 - (k9 : Int)) (by omega))
                  have h1v : 1 ≤ hd + (m : Int) := by rw [← HE1.out]; exact HS7.out.h1
                  clear ek9
                  obtain ⟨CH9', CT9', CR9', CF9', CD9'⟩ := HT9.out
                  have CH9 := Lib.hid CH9'
                  have CT9 := Lib.hid CT9'
                  have CR9 := Lib.hid CR9'
                  have CF9 := Lib.hid CF9'
                  have CD9 := Lib.hid CD9'
                  have hq9 := Below.refl w7.heap.size w7
                  clear CH9' CT9' CR9' CF9' CD9' HT9
                  go_wp2_with (first
                    | (go_at_call 13; with_reducible refine (CH9.out _ hq9).mono ?_; rintro e wq ⟨rfl, hq9⟩)
                    | (go_at_call 23; with_reducible refine (CT9.out _ hq9).mono ?_; rintro e wq ⟨rfl, hq9⟩)
                    | (go_at_call 15; with_reducible refine (CR9.out _ hq9).mono ?_; rintro e wq ⟨aR, cR, rfl, hq9⟩)
                    | (go_at_call 16; with_reducible refine (CF9.out _ hq9).mono ?_; rintro e wq ⟨rfl, hq9⟩)
                    | (go_at_call 24; with_reducible refine (CD9.out _ hq9).mono ?_; rintro e wq ⟨rfl, hq9⟩))
                  go_roundw
                  case rel => exact ⟨k + 1, _, _, _, _, by have := HKn.out; omega, by have := HKn.out; omega, by go_num, (HS7.out.below hq9).mono (by omega)⟩
                  case measure => have := HKn.out; simp [intOf]; omega
                · have hev0 : (ev == 0) = false := by simpa using hev
                  have hev1 : (ev != 0) = true := by simpa using hev
                  rw [M.trimL_no hev] at HS7
                  by_cases hle : hd + (m : Int) ≤ tl
                  · have hdead : d7.dead = true := HDd.out hev (by rw [HEq.out.1, HEq.out.2]; exact hle)
                    clear hev
                    have HE1 : Hid (L.head = hd) := Lib.hid HEq.out.1
                    have HE2 : Hid (L.tail = tl) := Lib.hid HEq.out.2
                    obtain ⟨k9, ek9⟩ : ∃ k9, L.rs.length = k9 := ⟨_, rfl⟩
                    have hk9 : (k9 : Int) ≤ 1000 := by have := HS7.out.ln; have := Hr.out; omega
                    have hk90 : (0 : Int) ≤ (k9 : Int) := by omega
                    have e31 : ((tl) != (hd) + (k9 : Int)) = false := by
                      have h1 : L.head = hd := HE1.out
                      have h2 : L.tail = tl := HE2.out
                      unfold M.Lg.tail at h2
                      rw [h1, ek9] at h2
                      rw [h2]; simp
                    have HT9 := Lib.hid (HS7.out.tells (by have := HKn.out; omega) HE1.out HE2.out ek9 (fv := (r : Int) + 2 - (k9 : Int)) (by omega))
                    have h1v : 1 ≤ hd := by rw [← HE1.out]; exact HS7.out.h1
                    clear ek9
                    obtain ⟨CH9', CT9', CR9', CF9', CD9'⟩ := HT9.out
                    have CH9 := Lib.hid CH9'
                    have CT9 := Lib.hid CT9'
                    have CR9 := Lib.hid CR9'
                    have CF9 := Lib.hid CF9'
                    have CD9 := Lib.hid CD9'
                    have hq9 := Below.refl w7.heap.size w7
                    clear CH9' CT9' CR9' CF9' CD9' HT9
                    go_wp2_with (first
                      | (go_at_call 13; with_reducible refine (CH9.out _ hq9).mono ?_; rintro e wq ⟨rfl, hq9⟩)
                      | (go_at_call 23; with_reducible refine (CT9.out _ hq9).mono ?_; rintro e wq ⟨rfl, hq9⟩)
                      | (go_at_call 15; with_reducible refine (CR9.out _ hq9).mono ?_; rintro e wq ⟨aR, cR, rfl, hq9⟩)
                      | (go_at_call 16; with_reducible refine (CF9.out _ hq9).mono ?_; rintro e wq ⟨rfl, hq9⟩)
                      | (go_at_call 24; with_reducible refine (CD9.out _ hq9).mono ?_; rintro e wq ⟨rfl, hq9⟩))
                    go_roundw
                    case rel => exact ⟨k + 1, _, _, _, _, by have := HKn.out; omega, by have := HKn.out; omega, by go_num, (HS7.out.below hq9).mono (by omega)⟩
                    case measure => have := HKn.out; simp [intOf]; omega
                  · have hled : decide (hd + (m : Int) ≤ tl) = false := by simpa using hle
                    clear hev hle
                    have HE1 : Hid (L.head = hd) := Lib.hid HEq.out.1
                    have HE2 : Hid (L.tail = tl) := Lib.hid HEq.out.2
                    obtain ⟨k9, ek9⟩ : ∃ k9, L.rs.length = k9 := ⟨_, rfl⟩
                    have hk9 : (k9 : Int) ≤ 1000 := by have := HS7.out.ln; have := Hr.out; omega
                    have hk90 : (0 : Int) ≤ (k9 : Int) := by omega
                    have e31 : ((tl) != (hd) + (k9 : Int)) = false := by
                      have h1 : L.head = hd := HE1.out
                      have h2 : L.tail = tl := HE2.out
                      unfold M.Lg.tail at h2
                      rw [h1, ek9] at h2
                      rw [h2]; simp
                    have HT9 := Lib.hid (HS7.out.tells (by have := HKn.out; omega) HE1.out HE2.out ek9 (fv := (r : Int) + 2 - (k9 : Int)) (by omega))
                    have h1v : 1 ≤ hd := by rw [← HE1.out]; exact HS7.out.h1
                    clear ek9
                    obtain ⟨CH9', CT9', CR9', CF9', CD9'⟩ := HT9.out
                    have CH9 := Lib.hid CH9'
                    have CT9 := Lib.hid CT9'
                    have CR9 := Lib.hid CR9'
                    have CF9 := Lib.hid CF9'
                    have CD9 := Lib.hid CD9'
                    have hq9 := Below.refl w7.heap.size w7
                    clear CH9' CT9' CR9' CF9' CD9' HT9
                    go_wp2_with (first
                      | (go_at_call 13; with_reducible refine (CH9.out _ hq9).mono ?_; rintro e wq ⟨rfl, hq9⟩)
                      | (go_at_call 23; with_reducible refine (CT9.out _ hq9).mono ?_; rintro e wq ⟨rfl, hq9⟩)
                      | (go_at_call 15; with_reducible refine (CR9.out _ hq9).mono ?_; rintro e wq ⟨aR, cR, rfl, hq9⟩)
                      | (go_at_call 16; with_reducible refine (CF9.out _ hq9).mono ?_; rintro e wq ⟨rfl, hq9⟩)
                      | (go_at_call 24; with_reducible refine (CD9.out _ hq9).mono ?_; rintro e wq ⟨rfl, hq9⟩))
                    go_roundw
                    case rel => exact ⟨k + 1, _, _, _, _, by have := HKn.out; omega, by have := HKn.out; omega, by go_num, (HS7.out.below hq9).mono (by omega)⟩
                    case measure => have := HKn.out; simp [intOf]; omega
              · have d2 : (x.kind == 2) = false := by simpa using c2
                clear c2
                by_cases c4 : x.kind = 4
                · have d4 : (x.kind == 4) = true := by simpa using c4
                  clear c4
                  obtain ⟨hd, ehd⟩ : ∃ hd, L.head = hd := ⟨_, rfl⟩
                  obtain ⟨tl, etl⟩ : ∃ tl, L.tail = tl := ⟨_, rfl⟩
                  have HEq := Lib.hid (And.intro ehd etl)
                  have hbnd : 1 ≤ hd ∧ hd ≤ tl ∧ tl ≤ 100 := ⟨by rw [← ehd]; exact HS.out.h1, by rw [← ehd, ← etl]; unfold M.Lg.tail; omega, by rw [← etl]; have := HS.out.tl; have := HKn.out; omega⟩
                  obtain ⟨hd1, hd2, tl1⟩ := hbnd
                  have htt : (tl == tl + 1) = false := by rw [beq_eq_false_iff_ne]; omega
                  clear ehd etl
                  go_wp2_with (first
                    | (go_at_call 18; refine (HLg.out _).mono ?_; rintro e w4 ⟨rfl, hb4⟩
                       have HO4 : Hid (Below wr.heap.size wr w4) := Lib.hid (((Below.refl _ _).alloc (Nat.le_refl _) _).trans (hb4.mono (by simp)))
                       have HZ4 : Hid (wr.heap.size < w4.heap.size) := Lib.hid (by have := hb4.size; simp at this; omega)
                       obtain ⟨hx0, hx1, hx2⟩ := act_cells x (hb4.mono (by simp))
                       have HS4 := Lib.hid (HS.out.below HO4.out)
                       clear hb4)
                    | (go_at_call 13; with_reducible refine (HS4.out.tells (by have := HKn.out; omega) HEq.out.1 HEq.out.2 rfl rfl |>.1 w4 (Below.refl _ _)).mono ?_; rintro e w5 ⟨rfl, hb5⟩
                       have HS5 := Lib.hid (HS4.out.below hb5)
                       have HO5 : Hid (Below w4.heap.size w4 w5) := Lib.hid hb5
                       clear hb5)
                    | (go_at_call 23; with_reducible refine (HS5.out.tells (by have := HKn.out; omega) HEq.out.1 HEq.out.2 rfl rfl |>.2.1 w5 (Below.refl _ _)).mono ?_; rintro e w6 ⟨rfl, hb6⟩
                       have HS6 := Lib.hid (HS5.out.below hb6)
                       have HO6 : Hid (Below w4.heap.size w4 w6) := Lib.hid (HO5.out.trans (hb6.mono HO5.out.size))
                       have hy0 : w6.cell? ⟨wr.heap.size, 0, none⟩ = some (.int .i64 x.kind) := by rw [HO6.out.cell (p := ⟨wr.heap.size, 0, none⟩) HZ4.out]; exact hx0
                       have hy1 : w6.cell? ⟨wr.heap.size, 1, none⟩ = some (.int .i64 x.i) := by rw [HO6.out.cell (p := ⟨wr.heap.size, 1, none⟩) HZ4.out]; exact hx1
                       have hy2 : w6.cell? ⟨wr.heap.size, 2, none⟩ = some (.string x.s) := by rw [HO6.out.cell (p := ⟨wr.heap.size, 2, none⟩) HZ4.out]; exact hx2
                       clear hb6)
                    | (go_at_call 25; refine (HS6.out.fuse x.i HOk.out.1 HOk.out.2).mono ?_; rintro e w7 ⟨d7, rfl, hS7⟩; have HS7 := Lib.hid hS7; clear hS7))
                  have HE1 : Hid (L.head = hd) := Lib.hid HEq.out.1
                  have HE2 : Hid (L.tail = tl) := Lib.hid HEq.out.2
                  obtain ⟨k9, ek9⟩ : ∃ k9, L.rs.length = k9 := ⟨_, rfl⟩
                  have hk9 : (k9 : Int) ≤ 1000 := by have := HS7.out.ln; have := Hr.out; omega
                  have hk90 : (0 : Int) ≤ (k9 : Int) := by omega
                  have e31 : ((tl) != (hd) + (k9 : Int)) = false := by
                    have h1 : L.head = hd := HE1.out
                    have h2 : L.tail = tl := HE2.out
                    unfold M.Lg.tail at h2
                    rw [h1, ek9] at h2
                    rw [h2]; simp
                  have HT9 := Lib.hid (HS7.out.tells (by have := HKn.out; omega) HE1.out HE2.out ek9 (fv := (r : Int) + 2 - (k9 : Int)) (by omega))
                  have h1v : 1 ≤ hd := by rw [← HE1.out]; exact HS7.out.h1
                  clear ek9
                  obtain ⟨CH9', CT9', CR9', CF9', CD9'⟩ := HT9.out
                  have CH9 := Lib.hid CH9'
                  have CT9 := Lib.hid CT9'
                  have CR9 := Lib.hid CR9'
                  have CF9 := Lib.hid CF9'
                  have CD9 := Lib.hid CD9'
                  have hq9 := Below.refl w7.heap.size w7
                  clear CH9' CT9' CR9' CF9' CD9' HT9
                  go_wp2_with (first
                    | (go_at_call 13; with_reducible refine (CH9.out _ hq9).mono ?_; rintro e wq ⟨rfl, hq9⟩)
                    | (go_at_call 23; with_reducible refine (CT9.out _ hq9).mono ?_; rintro e wq ⟨rfl, hq9⟩)
                    | (go_at_call 15; with_reducible refine (CR9.out _ hq9).mono ?_; rintro e wq ⟨aR, cR, rfl, hq9⟩)
                    | (go_at_call 16; with_reducible refine (CF9.out _ hq9).mono ?_; rintro e wq ⟨rfl, hq9⟩)
                    | (go_at_call 24; with_reducible refine (CD9.out _ hq9).mono ?_; rintro e wq ⟨rfl, hq9⟩))
                  go_roundw
                  case rel => exact ⟨k + 1, _, _, _, _, by have := HKn.out; omega, by have := HKn.out; omega, by go_num, (HS7.out.below hq9).mono (by omega)⟩
                  case measure => have := HKn.out; simp [intOf]; omega
                · have d4 : (x.kind == 4) = false := by simpa using c4
                  clear c4
                  obtain ⟨hd, ehd⟩ : ∃ hd, L.head = hd := ⟨_, rfl⟩
                  obtain ⟨tl, etl⟩ : ∃ tl, L.tail = tl := ⟨_, rfl⟩
                  have HEq := Lib.hid (And.intro ehd etl)
                  have hbnd : 1 ≤ hd ∧ hd ≤ tl ∧ tl ≤ 100 := ⟨by rw [← ehd]; exact HS.out.h1, by rw [← ehd, ← etl]; unfold M.Lg.tail; omega, by rw [← etl]; have := HS.out.tl; have := HKn.out; omega⟩
                  obtain ⟨hd1, hd2, tl1⟩ := hbnd
                  have htt : (tl == tl + 1) = false := by rw [beq_eq_false_iff_ne]; omega
                  clear ehd etl
                  go_wp2_with (first
                    | (go_at_call 18; refine (HLg.out _).mono ?_; rintro e w4 ⟨rfl, hb4⟩
                       have HO4 : Hid (Below wr.heap.size wr w4) := Lib.hid (((Below.refl _ _).alloc (Nat.le_refl _) _).trans (hb4.mono (by simp)))
                       have HZ4 : Hid (wr.heap.size < w4.heap.size) := Lib.hid (by have := hb4.size; simp at this; omega)
                       obtain ⟨hx0, hx1, hx2⟩ := act_cells x (hb4.mono (by simp))
                       have HS4 := Lib.hid (HS.out.below HO4.out)
                       clear hb4)
                    | (go_at_call 13; with_reducible refine (HS4.out.tells (by have := HKn.out; omega) HEq.out.1 HEq.out.2 rfl rfl |>.1 w4 (Below.refl _ _)).mono ?_; rintro e w5 ⟨rfl, hb5⟩
                       have HS5 := Lib.hid (HS4.out.below hb5)
                       have HO5 : Hid (Below w4.heap.size w4 w5) := Lib.hid hb5
                       clear hb5)
                    | (go_at_call 23; with_reducible refine (HS5.out.tells (by have := HKn.out; omega) HEq.out.1 HEq.out.2 rfl rfl |>.2.1 w5 (Below.refl _ _)).mono ?_; rintro e w6 ⟨rfl, hb6⟩
                       have HS6 := Lib.hid (HS5.out.below hb6)
                       have HO6 : Hid (Below w4.heap.size w4 w6) := Lib.hid (HO5.out.trans (hb6.mono HO5.out.size))
                       have hy0 : w6.cell? ⟨wr.heap.size, 0, none⟩ = some (.int .i64 x.kind) := by rw [HO6.out.cell (p := ⟨wr.heap.size, 0, none⟩) HZ4.out]; exact hx0
                       have hy1 : w6.cell? ⟨wr.heap.size, 1, none⟩ = some (.int .i64 x.i) := by rw [HO6.out.cell (p := ⟨wr.heap.size, 1, none⟩) HZ4.out]; exact hx1
                       have hy2 : w6.cell? ⟨wr.heap.size, 2, none⟩ = some (.string x.s) := by rw [HO6.out.cell (p := ⟨wr.heap.size, 2, none⟩) HZ4.out]; exact hx2
                       clear hb6
                       have HE1 : Hid (L.head = hd) := Lib.hid HEq.out.1
                       have HE2 : Hid (L.tail = tl) := Lib.hid HEq.out.2
                       obtain ⟨k9, ek9⟩ : ∃ k9, L.rs.length = k9 := ⟨_, rfl⟩
                       have hk9 : (k9 : Int) ≤ 1000 := by have := HS6.out.ln; have := Hr.out; omega
                       have hk90 : (0 : Int) ≤ (k9 : Int) := by omega
                       have e31 : ((tl) != (hd) + (k9 : Int)) = false := by
                         have h1 : L.head = hd := HE1.out
                         have h2 : L.tail = tl := HE2.out
                         unfold M.Lg.tail at h2
                         rw [h1, ek9] at h2
                         rw [h2]; simp
                       have HT9 := Lib.hid (HS6.out.tells (by have := HKn.out; omega) HE1.out HE2.out ek9 (fv := (r : Int) + 2 - (k9 : Int)) (by omega))
                       have h1v : 1 ≤ hd := by rw [← HE1.out]; exact HS6.out.h1
                       clear ek9
                       obtain ⟨CH9', CT9', CR9', CF9', CD9'⟩ := HT9.out
                       have CH9 := Lib.hid CH9'
                       have CT9 := Lib.hid CT9'
                       have CR9 := Lib.hid CR9'
                       have CF9 := Lib.hid CF9'
                       have CD9 := Lib.hid CD9'
                       have hq9 := Below.refl w6.heap.size w6
                       clear CH9' CT9' CR9' CF9' CD9' HT9)  | (go_at_call 13; with_reducible refine (CH9.out _ hq9).mono ?_; rintro e wq ⟨rfl, hq9⟩)
                    | (go_at_call 23; with_reducible refine (CT9.out _ hq9).mono ?_; rintro e wq ⟨rfl, hq9⟩)
                    | (go_at_call 15; with_reducible refine (CR9.out _ hq9).mono ?_; rintro e wq ⟨aR, cR, rfl, hq9⟩)
                    | (go_at_call 16; with_reducible refine (CF9.out _ hq9).mono ?_; rintro e wq ⟨rfl, hq9⟩)
                    | (go_at_call 24; with_reducible refine (CD9.out _ hq9).mono ?_; rintro e wq ⟨rfl, hq9⟩))
                  go_roundw
                  case rel => exact ⟨k + 1, _, _, _, _, by have := HKn.out; omega, by have := HKn.out; omega, by go_num, (HS6.out.below hq9).mono (by omega)⟩
                  case measure => have := HKn.out; simp [intOf]; omega

set_option maxRecDepth 100000 in
theorem lifted (os : Os) (started : os.Started) (H : Type) (enc : TypeId × Value → H) :
    ReturnsInHanded {} Try.checked os 6 .any (Rows.logStepsSpec.pre6 enc Try.prog Try.f6 Rows.logStepsRow.domain false) (Rows.logStepsSpec.post enc Try.prog Try.f6 false true false false) := by
  refine returnsInHanded_of_change (C := Try.checked) own started (by kernel_rfl) Try.func6
    (ChangeSpec.witness6 (enc := enc) (C := Try.checked) false ⟨#[], #[.int .u8 0, .slice none 0 0], []⟩ 8 (by kernel_rfl) (by kernel_rfl) (by kernel_rfl) (by kernel_rfl)) ?_
  intro W base args ds gs before hval0 hW hcnd _
  have hval : ∀ (j : Nat) t v, Try.f6.params[j]? = some t → args[j]? = some v → Value.okWide Try.prog W .any base t v := hval0
  have hW' := hW
  obtain ⟨p, q, hA0, hV, rfl, hfz, hnd⟩ := hW
  have hA : DataW.TrodAll enc Try.prog W 0 (fun _ => true) true Try.f6.params.toList args.toList ds p := hA0
  rw [Try.params6] at hA hval
  obtain ⟨v0, vs0, d0, ds0, p0, q0, hargs, rfl, rfl, h0, r0'⟩ := trodAll_cons hA
  obtain ⟨v1, vs1, d1, ds1, p1, q1, rfl, rfl, rfl, h1, r1'⟩ := trodAll_cons r0'
  obtain ⟨rfl, rfl, rfl⟩ := trodAll_nil r1'
  obtain rfl : args = #[v0, v1] := by cases args; simp_all
  obtain ⟨rfl, rfl⟩ := trodVars_none hV
  obtain ⟨x0, rfl, rfl, rfl, w0⟩ := open_int Try.underlying5 (hval 0 5 v0 rfl rfl) h0
  have k1 := h1
  have lt1 : ∀ x ∈ p1, x.block < W.heap.size := by obtain ⟨m, hm⟩ := k1; exact DataW.trod_lt m _ _ _ hm
  obtain ⟨a1, n1, c1, l1, rfl, w1⟩ := open_lot h1 (okWide_slice Try.underlying37 (hval 1 37 v1 rfl rfl))
  clear hA0 hval0
  refine (walk x0 a1 n1 c1 l1 W w0 w1).mono fun e W' ⟨he, bel⟩ => ?_
  subst he
  exact ⟨_, rfl, _, _, _, [], _, [], hW', trodAll_mk1 (shut_bool Try.underlying4 _), (trodAll_cons_mk (shut_int Try.underlying5 w0) (trodAll_cons_mk (Below.trod laidOut (by kernel_rfl) (of_decide_eq_true (by kernel_rfl)) k1 bel lt1) trodAll_mk0)), rfl, bel.frame _, fun h => by cases h⟩

theorem over : Rows.logStepsRow.holds Try.pinned (OpenSpec.ofChange Rows.logStepsSpec) :=
  OpenClaim.holds_of_wide 6 Try.f6 rfl rfl rfl rfl rfl rfl rfl ⟨rfl, rfl, rfl, rfl, rfl⟩ rfl rfl rfl rfl rfl (by kernel_rfl) Try.func6 (by kernel_rfl)
    (of_decide_eq_true (by kernel_rfl)) (by unfold Func.isWrapper; first | (rw [if_pos (by decide +kernel)]; kernel_rfl) | (rw [if_neg (by decide +kernel)]; exact ⟨rfl, rfl⟩))
    (fun os started H enc _ => lifted os started H enc)

/-- the statement -/
theorem proved : Rows.LogStepsSaid := over
#print axioms proved
end Go.Proofs.Ytbmgaopdahlkkaa.logSteps
