/-
  A log on a device without a fuse: what each call makes of it, with all that holds.
-/
import Derived.Test.YtmcalgnpinolmaaGreatLog8
import Derived.Test.YtmcalgnpinolmaaGreatLog9
import Derived.Test.YtmcalgnpinolmaaGreatLog10
namespace Go.Proofs.YtmcalgnpinolmaaGreat
open Go.RowKit
set_option linter.unusedVariables false
set_option linter.unusedSimpArgs false
set_option maxRecDepth 20000

variable {dB sB mB n : Nat} {d : M.Dv} {lB rb cB first N a b : Nat} {c : M.Cl} {L : M.Lg} {K : Int}

/-- where ring and cell lie -/
structure Geo (n first N a b : Nat) : Prop where
  ab : a ≠ b
  an : a < n
  bn : b < n
  fn : first + N ≤ n
  n2 : 2 ≤ N
  ar : ¬ (first ≤ a ∧ a < first + N)
  br : ¬ (first ≤ b ∧ b < first + N)
  n5 : n ≤ 512

/-- the blocks lie apart -/
structure Apart (dB sB mB lB rb cB : Nat) : Prop where
  c1 : cB ≠ dB ∧ cB ≠ sB ∧ cB ≠ mB
  l1 : lB ≠ dB ∧ lB ≠ sB ∧ lB ≠ mB ∧ lB ≠ cB
  r1 : rb ≠ dB ∧ rb ≠ sB ∧ rb ≠ mB ∧ rb ≠ cB

/-- a log, its cell, and what holds of them -/
structure LG (w : World) (dB sB mB n : Nat) (d : M.Dv) (lB rb cB first N a b : Nat) (c : M.Cl) (L : M.Lg) (K : Int) : Prop where
  ca : CellAt w cB dB a b c
  la : LogAt w lB rb dB first N (.pointer (some ⟨cB, 0, none⟩)) L
  sp : Apart dB sB mB lB rb cB
  gd : M.Good (M.seen d) K first N a b c L
  geo : Geo n first N a b

theorem LG.but {w w' : World} (h : LG w dB sB mB n d lB rb cB first N a b c L K) {q : List Nat} (hb : But q w w') (h1 : lB ∉ q) (h2 : rb ∉ q) (h3 : cB ∉ q) : LG w' dB sB mB n d lB rb cB first N a b c L K :=
  ⟨h.ca.but hb h3, h.la.but hb h1 h2, h.sp, h.gd, h.geo⟩
theorem LG.below {w w' : World} (h : LG w dB sB mB n d lB rb cB first N a b c L K) (hb : Below w.heap.size w w') : LG w' dB sB mB n d lB rb cB first N a b c L K := h.but (But.of_below hb) (by simp) (by simp) (by simp)

/-- the ring's and the cell's sectors are as they were -/
theorem Good_congr {S S' : Nat → List UInt8} (h : M.Good S K first N a b c L) (e1 : ∀ p, p < N → S' (first + p) = S (first + p)) (e2 : S' a = S a) (e3 : S' b = S b) : M.Good S' K first N a b c L :=
  ⟨h.ring.congr e1, by rw [e2, e3]; exact h.cell, h.text, h.gen, h.tail, h.time⟩
theorem Good_mono {S : Nat → List UInt8} {K' : Int} (h : M.Good S K first N a b c L) (hk : K ≤ K') : M.Good S K' first N a b c L :=
  ⟨h.ring, h.cell, h.text, by have := h.gen; omega, by have := h.tail; omega, by have := h.time; omega⟩
theorem LG.dev {w : World} {d' : M.Dv} (h : LG w dB sB mB n d lB rb cB first N a b c L K) (e : ∀ j : Nat, (first ≤ j ∧ j < first + N) ∨ j = a ∨ j = b → M.seen d' j = M.seen d j) : LG w dB sB mB n d' lB rb cB first N a b c L K :=
  ⟨h.ca, h.la, h.sp, Good_congr h.gd (fun p hp => e _ (.inl ⟨by omega, by omega⟩)) (e _ (.inr (.inl rfl))) (e _ (.inr (.inr rfl))), h.geo⟩
theorem LG.mono {w : World} {K' : Int} (h : LG w dB sB mB n d lB rb cB first N a b c L K) (hk : K ≤ K') : LG w dB sB mB n d lB rb cB first N a b c L K' := ⟨h.ca, h.la, h.sp, Good_mono h.gd hk, h.geo⟩

namespace M
/-- what Append tells on a device without a fuse -/
def appR (N : Nat) (L : Lg) (s : ByteArray) : Int := if 110 < s.size then 3 else if N ≤ L.rs.length then 12 else 0
end M

theorem gen_in {S : Nat → List UInt8} (h : M.Good S K first N a b c L) : 0 ≤ c.gen ∧ c.o ≤ 1 := by
  have h1 := M.found_gen (S a) (S b)
  have h2 := M.found_o (S a) (S b)
  rw [← h.cell] at h1 h2
  exact ⟨h1.1, h2⟩

theorem append_lg (w : World) (hd : DevAt w dB sB mB n d) (hf : Free d) (h : LG w dB sB mB n d lB rb cB first N a b c L K) (hK : K ≤ 1000000000) (s : ByteArray) :
    Calls Tryz.prog 101 #[.pointer (some ⟨lB, 0, none⟩), .string s] w fun e w' => e = .returned (.int .i64 (M.appR N L s)) ∧ ∃ d' rb', DevAt w' dB sB mB n d' ∧ Free d' ∧ LG w' dB sB mB n d' lB rb' cB first N a b c (M.appL (M.appR N L s) L s) (K + 1) ∧
      (rb' = rb ∨ w.heap.size ≤ rb') ∧ But [dB, mB, lB, rb] w w' ∧ (∀ j : Nat, j ≠ M.place first N L.tail → M.seen d' j = M.seen d j) := by
  have hin := h.gd.inT (by omega)
  have hn := hd.n512
  have g1 := h.geo.n2
  have g2 := h.geo.fn
  have htl := h.gd.tail
  obtain ⟨p, hp, hpl⟩ := M.place_lt (first := first) (show 0 < N by omega) L.tail
  have hpn : M.place first N L.tail < n := by omega
  have hlc := h.la.lt
  have hcl := h.ca.lt
  have hsp := h.sp
  refine (append_any w hd L h.la ⟨h.sp.l1.1, h.sp.l1.2.1, h.sp.l1.2.2.1⟩ ⟨h.sp.r1.1, h.sp.r1.2.1, h.sp.r1.2.2.1⟩ (by omega) (by omega) (by omega) hin h.gd.ring.len (by omega) s).mono ?_
  rintro e w' ⟨rfl, hd', rb', hla', hrb, hb⟩
  have hsp' : Apart dB sB mB lB rb' cB := ⟨hsp.c1, hsp.l1, by
    rcases hrb with z | z
    · rw [z]; exact hsp.r1
    · have := hd.ltD; have := hd.lt; have := hd.pend.lt; omega⟩
  have hca' : CellAt w' cB dB a b c := h.ca.but hb (by have := hsp.c1; have := hsp.l1; have := hsp.r1; simp; omega)
  by_cases c1 : 110 < s.size
  · have e1 : M.appE n d first N L s = 3 := if_pos c1
    have e2 : M.appD n d first N L s = d := if_pos c1
    have e3 : M.appR N L s = 3 := if_pos c1
    rw [e1, M.appL_no (by decide)] at hla'
    rw [e2] at hd'
    rw [e1, e3, M.appL_no (by decide)]
    exact ⟨rfl, d, rb', hd', hf, ⟨hca', hla', hsp', Good_mono h.gd (by omega), h.geo⟩, hrb, hb, fun _ _ => rfl⟩
  · by_cases c2 : N ≤ L.rs.length
    · have e1 : M.appE n d first N L s = 12 := by unfold M.appE; rw [if_neg c1, if_pos c2]
      have e2 : M.appD n d first N L s = d := by unfold M.appD; rw [if_neg c1, if_pos c2]
      have e3 : M.appR N L s = 12 := by unfold M.appR; rw [if_neg c1, if_pos c2]
      rw [e1, M.appL_no (by decide)] at hla'
      rw [e2] at hd'
      rw [e1, e3, M.appL_no (by decide)]
      exact ⟨rfl, d, rb', hd', hf, ⟨hca', hla', hsp', Good_mono h.gd (by omega), h.geo⟩, hrb, hb, fun _ _ => rfl⟩
    · have hm : M.MayL L.tail ⟨L.time, s⟩ := ⟨by unfold C.M.fits; have := hin.1; unfold M.Lg.tail at *; omega, by unfold C.M.fits; have := hin.2.1; simp only; omega, by simp only; omega⟩
      have hw : M.writeE n d (M.place first N L.tail) (M.secL L.tail ⟨L.time, s⟩) = 0 := by
        rw [hf.writeE, if_neg (by omega), if_neg (by have := M.secL_small hm; omega)]
      have e1 : M.appE n d first N L s = 0 := by unfold M.appE; rw [if_neg c1, if_neg c2, hw]
      have e2 : M.appD n d first N L s = M.writeD n d (M.place first N L.tail) (M.secL L.tail ⟨L.time, s⟩) := by unfold M.appD; rw [if_neg c1, if_neg c2]
      have e3 : M.appR N L s = 0 := by unfold M.appR; rw [if_neg c1, if_neg c2]
      rw [e1, M.appL_ok] at hla'
      rw [e2] at hd'
      rw [e1, e3, M.appL_ok]
      have hseen : ∀ j : Nat, M.seen (M.writeD n d (M.place first N L.tail) (M.secL L.tail ⟨L.time, s⟩)) j = if j = M.place first N L.tail then M.pad (M.secL L.tail ⟨L.time, s⟩) else M.seen d j := fun j => by
        by_cases hj : j = M.place first N L.tail
        · rw [if_pos hj, hj]; exact seen_write_same hf n _ hw
        · rw [if_neg hj]; exact seen_write hf n (by omega) _
      have hga : a ≠ M.place first N L.tail := by have := h.geo.ar; omega
      have hgb : b ≠ M.place first N L.tail := by have := h.geo.br; omega
      refine ⟨rfl, _, rb', hd', hf.write n _ _, ⟨hca', hla', hsp', ⟨h.gd.ring.add (by omega) s hm hseen, ?_, h.gd.text, by have := h.gd.gen; omega, by rw [M.add_tail]; omega, by have := h.gd.time; show L.time ≤ K + 1; omega⟩, h.geo⟩, hrb, hb, fun j hj => by rw [hseen, if_neg hj]⟩
      rw [hseen, hseen, if_neg hga, if_neg hgb]
      exact h.gd.cell

theorem sync_lg (w : World) (hd : DevAt w dB sB mB n d) (hf : Free d) (h : LG w dB sB mB n d lB rb cB first N a b c L K) :
    Calls Tryz.prog 54 #[.pointer (some ⟨lB, 0, none⟩)] w fun e w' => e = .returned (.int .i64 0) ∧ ∃ d', DevAt w' dB sB mB n d' ∧ Free d' ∧ LG w' dB sB mB n d' lB rb cB first N a b c L K ∧ But [dB, sB, mB] w w' ∧ (∀ j : Nat, M.seen d' j = M.seen d j) ∧ ∀ k, d'.P k = none := by
  obtain ⟨ra, cap, g, o, e, hra⟩ := h.la
  refine (sync_any w hd g).mono ?_
  rintro e w' ⟨rfl, hd', hb⟩
  have hz : M.barrierE d = 0 := by unfold M.barrierE; rw [hf.2, if_neg (by simp), hf.act.1]
  rw [hz]
  have h1 := h.sp.c1
  have h2 := h.sp.l1
  have h3 := h.sp.r1
  exact ⟨rfl, _, hd', hf.barrier, (h.but hb (by simp; omega) (by simp; omega) (by simp; omega)).dev (fun j _ => seen_barrier hf j), hb, fun j => seen_barrier hf j, fun k => by rw [hf.barrierD]⟩

theorem trim_lg (w : World) (hd : DevAt w dB sB mB n d) (hf : Free d) (h : LG w dB sB mB n d lB rb cB first N a b c L K) (hK : K ≤ 1000000000) (gn : Nat) (hg : gn ≤ L.rs.length) :
    Calls Tryz.prog 126 #[.pointer (some ⟨lB, 0, none⟩), .int .i64 (L.head + gn)] w fun e w' => e = .returned (.int .i64 0) ∧ ∃ d' c', DevAt w' dB sB mB n d' ∧ Free d' ∧ LG w' dB sB mB n d' lB rb cB first N a b c' (L.cut gn) (K + 1) ∧
      But [dB, sB, mB, cB, lB, rb] w w' ∧ (∀ j : Nat, j ≠ a → j ≠ b → M.seen d' j = M.seen d j) ∧ ∀ k, d'.P k = none := by
  have hin := h.gd.inT (by omega)
  have hn := hd.n512
  have hgi := gen_in h.gd
  have hgen := h.gd.gen
  have hcut := h.gd.ring.cut hg
  have htl : (L.cut gn).tail = L.tail := M.cut_tail L hg
  have htl2 := h.gd.tail
  have hin2 : M.InT (L.cut gn).head (L.cut gn).time (L.cut gn).least := by
    have e1 := hcut.h1
    have e2 := hcut.l0
    have e3 := hcut.lt
    have e4 : (L.cut gn).head ≤ (L.cut gn).tail := by unfold M.Lg.tail; omega
    have e5 : (L.cut gn).time = L.time := rfl
    have e6 := h.gd.time
    exact ⟨⟨by omega, by omega⟩, ⟨by omega, by omega⟩, by omega, by omega⟩
  have htx := M.txtL_size (L.cut gn).head (L.cut gn).time (L.cut gn).least
  have hpos : M.pos c.o a b < n := by have := h.geo.an; have := h.geo.bn; unfold M.pos; split <;> omega
  have hmay : M.MayS (c.gen + 1) (M.txtL (L.cut gn).head (L.cut gn).time (L.cut gn).least) := ⟨by omega, by omega, by omega⟩
  obtain ⟨q1, q2, q3, q4⟩ := put_free hf.barrier (M.barrier_wf hd.wf) hpos (l := M.slot (c.gen + 1) (M.txtL (L.cut gn).head (L.cut gn).time (L.cut gn).least)) (by have := M.slot_small hmay; omega)
  have hz : M.barrierE d = 0 := by unfold M.barrierE; rw [hf.2, if_neg (by simp), hf.act.1]
  have hev : M.trimE n d (M.pos c.o a b) (M.slot (c.gen + 1) (M.txtL (L.cut gn).head (L.cut gn).time (L.cut gn).least)) = 0 := by unfold M.trimE; rw [if_pos hz, q1]
  have hdv : M.trimD n d (M.pos c.o a b) (M.slot (c.gen + 1) (M.txtL (L.cut gn).head (L.cut gn).time (L.cut gn).least)) = M.putD n (M.barrierD d) (M.pos c.o a b) (M.slot (c.gen + 1) (M.txtL (L.cut gn).head (L.cut gn).time (L.cut gn).least)) := by unfold M.trimD; rw [if_pos hz]
  refine (trim_any w hd cB a b c h.ca L h.la h.sp.c1 h.sp.l1 h.sp.r1 hgi.2 ⟨hgi.1, by omega⟩ ⟨by have := h.geo.an; omega, by have := h.geo.bn; omega⟩ hin gn hg hin2 _ rfl _ rfl 0 hev).mono ?_
  rintro e w' ⟨rfl, hd', hc', hl', hb⟩
  rw [hdv] at hd'
  rw [M.putC_ok] at hc'
  rw [M.trimL_ok] at hl'
  have hfd := found_after hf.barrier (M.barrier_wf hd.wf) h.geo.ab h.geo.an h.geo.bn (t := M.txtL (L.cut gn).head (L.cut gn).time (L.cut gn).least) (by omega) (c := c) (by rw [seen_barrier hf, seen_barrier hf]; exact h.gd.cell) (by omega)
  have hsn : ∀ j : Nat, j ≠ a → j ≠ b → M.seen (M.putD n (M.barrierD d) (M.pos c.o a b) (M.slot (c.gen + 1) (M.txtL (L.cut gn).head (L.cut gn).time (L.cut gn).least))) j = M.seen d j := fun j h1 h2 => by
    rw [q4, if_neg (by unfold M.pos; split <;> assumption), seen_barrier hf]
  refine ⟨rfl, _, _, hd', q2, ⟨hc', hl', h.sp, ⟨hcut.congr (fun p hp => hsn _ (by have := h.geo.ar; omega) (by have := h.geo.br; omega)), hfd.symm, rfl, by show c.gen + 1 ≤ K + 1; omega, by rw [htl]; omega, by have := h.gd.time; show L.time ≤ K + 1; omega⟩, h.geo⟩, hb, hsn, q3⟩

theorem trim_no (w : World) (hd : DevAt w dB sB mB n d) (h : LG w dB sB mB n d lB rb cB first N a b c L K) (hK : K ≤ 1000000000) (k : Int) (hk : k < L.head ∨ L.tail < k) :
    Calls Tryz.prog 126 #[.pointer (some ⟨lB, 0, none⟩), .int .i64 k] w fun e w' => e = .returned (.int .i64 1) ∧ Below w.heap.size w w' := by
  obtain ⟨ra, cap, g, o, e, hra⟩ := h.la
  have hin := h.gd.inT (by omega)
  exact trim_bad w g ⟨by have := hin.1; omega, hin.1.2⟩ o.2 k hk

theorem head_lg (w : World) (h : LG w dB sB mB n d lB rb cB first N a b c L K) : Calls Tryz.prog 45 #[.pointer (some ⟨lB, 0, none⟩)] w fun e w' => e = .returned (.int .i64 L.head) ∧ w = w' := by
  obtain ⟨ra, cap, g, o, e, hra⟩ := h.la
  exact head_any w g
theorem tail_lg (w : World) (h : LG w dB sB mB n d lB rb cB first N a b c L K) (hK : K ≤ 1000000000) : Calls Tryz.prog 86 #[.pointer (some ⟨lB, 0, none⟩)] w fun e w' => e = .returned (.int .i64 L.tail) ∧ ∃ j, w' = w.drewN j := by
  obtain ⟨ra, cap, g, o, e, hra⟩ := h.la
  have hin := h.gd.inT (by omega)
  exact tail_any w g ⟨by have := hin.1; omega, hin.1.2⟩ o.2
theorem free_lg (w : World) (h : LG w dB sB mB n d lB rb cB first N a b c L K) : Calls Tryz.prog 99 #[.pointer (some ⟨lB, 0, none⟩)] w fun e w' => e = .returned (.int .i64 ((N : Int) - L.rs.length)) ∧ ∃ j, w' = w.drewN j := by
  obtain ⟨ra, cap, g, o, e, hra⟩ := h.la
  have := h.geo.fn
  have := h.geo.n5
  exact free_any w g (by omega) o.2

/-- Open, where nothing is there yet, or what a log has left -/
theorem open_lg (w : World) (hd : DevAt w dB sB mB n d) (hf : Free d) (hgeo : Geo n first N a b) (hK : K ≤ 1000000000) (hrg : M.RingO (M.seen d) first N L) (hc : c = M.found (M.rdS (M.seen d a)) (M.rdS (M.seen d b)))
    (htx : c.text = M.txtL L.head L.time L.least ∨ (c.text = ByteArray.empty ∧ L.head = 1 ∧ L.time = 0 ∧ L.least = 0)) (hg : c.gen ≤ K) (htl : L.tail ≤ K) (htm : L.time ≤ K) :
    Calls Tryz.prog 41 #[.pointer (some ⟨dB, 0, none⟩), .int .i64 (first : Int), .int .i64 (N : Int), .int .i64 (a : Int), .int .i64 (b : Int)] w fun e w' => ∃ lB cB rb d' c', e = .returned (.tuple #[.pointer (some ⟨lB, 0, none⟩), .int .i64 0]) ∧
      DevAt w' dB sB mB n d' ∧ Free d' ∧ LG w' dB sB mB n d' lB rb cB first N a b c' L.anew (K + 1) ∧ (w.heap.size ≤ lB ∧ w.heap.size ≤ cB ∧ w.heap.size ≤ rb) ∧ But [dB, sB, mB] w w' ∧ (∀ j : Nat, j ≠ a → j ≠ b → M.seen d' j = M.seen d j) ∧ ∀ k, d'.P k = none := by
  have e1 := hrg.h1
  have e2 := hrg.l0
  have e3 := hrg.lt
  have e4 : L.head ≤ L.tail := by unfold M.Lg.tail; omega
  have hin : M.InT L.head L.time L.least := ⟨⟨by omega, by omega⟩, ⟨by omega, by omega⟩, by omega, by omega⟩
  have hn := hd.n512
  have hgi := M.found_gen (M.seen d a) (M.seen d b)
  have hoi := M.found_o (M.seen d a) (M.seen d b)
  rw [← hc] at hgi hoi
  have htxs := M.txtL_size L.head (L.time + 1) L.least
  have hpos : M.pos c.o a b < n := by have := hgeo.an; have := hgeo.bn; unfold M.pos; split <;> omega
  have hmay : M.MayS (c.gen + 1) (M.txtL L.head (L.time + 1) L.least) := ⟨by omega, by omega, by omega⟩
  obtain ⟨q1, q2, q3, q4⟩ := put_free hf hd.wf hpos (l := M.slot (c.gen + 1) (M.txtL L.head (L.time + 1) L.least)) (by have := M.slot_small hmay; omega)
  have hrs : ∀ w', Calls Tryz.prog 59 #[.string c.text] w' fun e w'' => e = .returned (.agg #[.int .i64 L.head, .int .i64 L.time, .int .i64 L.least]) ∧ Below w'.heap.size w' w'' := fun w' => by
    rcases htx with z | ⟨z1, z2, z3, z4⟩
    · rw [z]; exact readState_yes w' _ _ _ hin
    · rw [z1, z2, z3, z4]; exact readState_no w' _ (by decide) (by rfl)
  refine (open_log w hd hf a b hgeo.ab hgeo.an hgeo.bn hgeo.fn hgeo.n2 hgeo.ar hgeo.br c hc.symm (by omega) L.head L.time L.least hrs hin (by omega) (by omega) L.rs hrg.find).mono ?_
  rintro e w' ⟨lB, cB, rb, rfl, hd', hc', hl', ⟨z1, z2, z3, z4, z5⟩, hb⟩
  have hfd := found_after hf hd.wf hgeo.ab hgeo.an hgeo.bn (t := M.txtL L.head (L.time + 1) L.least) (by omega) hc (by omega)
  have hsn : ∀ j : Nat, j ≠ a → j ≠ b → M.seen (M.putD n d (M.pos c.o a b) (M.slot (c.gen + 1) (M.txtL L.head (L.time + 1) L.least))) j = M.seen d j := fun j h1 h2 => by
    rw [q4, if_neg (by unfold M.pos; split <;> assumption)]
  have l1 := hd.ltD
  have l2 := hd.lt
  have l3 := hd.pend.lt
  refine ⟨lB, cB, rb, _, _, rfl, hd', q2, ⟨hc', hl', ⟨by omega, by omega, by omega⟩, ⟨hrg.anew.congr (fun p hp => hsn _ (by have := hgeo.ar; omega) (by have := hgeo.br; omega)), hfd.symm, rfl, by show c.gen + 1 ≤ K + 1; omega, by show L.tail ≤ K + 1; omega, by show L.time + 1 ≤ K + 1; omega⟩, hgeo⟩, ⟨z1, z2, z3⟩, hb, hsn, q3⟩
end Go.Proofs.YtmcalgnpinolmaaGreat
