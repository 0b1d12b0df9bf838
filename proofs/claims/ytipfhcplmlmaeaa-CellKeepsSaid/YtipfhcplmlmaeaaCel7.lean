/-
  A put on a device without a fuse; the calls whose answers the document fixes.
-/
import Derived.Test.YtipfhcplmlmaeaaCel6
namespace Go.Proofs.Ytipfhcplmlmaeaa
open Go.RowKit
set_option linter.unusedVariables false
set_option linter.unusedSimpArgs false
set_option maxRecDepth 20000

variable {dB sB mB n : Nat} {d : M.Dv}

theorem put_ok (w : World) (h : DevAt w dB sB mB n d) (hf : Free d) (cB a b : Nat) (c : M.Cl) (hc : CellAt w cB dB a b c) (hs : cB ≠ dB ∧ cB ≠ sB ∧ cB ≠ mB)
    (hcf : c = M.found (M.rdS (M.seen d a)) (M.rdS (M.seen d b))) (hg : c.gen < 4611686018427387904) (hab : a ≠ b) (ha : a < n) (hb : b < n) (t : ByteArray) (ht : t.size ≤ 100) :
    Calls Try.prog 18 #[.pointer (some ⟨cB, 0, none⟩), .string t] w fun e w' => e = .returned (.int .i64 0) ∧ ∃ d', DevAt w' dB sB mB n d' ∧ Free d' ∧ (∀ k, d'.P k = none) ∧
      (∀ j : Nat, M.seen d' j = if j = M.pos c.o a b then M.pad (M.slot (c.gen + 1) t) else M.seen d j) ∧ CellAt w' cB dB a b ⟨1 - c.o, c.gen + 1, t⟩ ∧
      M.Cl.mk (1 - c.o) (c.gen + 1) t = M.found (M.rdS (M.seen d' a)) (M.rdS (M.seen d' b)) ∧ But [dB, sB, mB, cB] w w' := by
  have ho := M.found_o (M.seen d a) (M.seen d b)
  have hg2 := M.found_gen (M.seen d a) (M.seen d b)
  rw [← hcf] at ho hg2
  have hn := h.n512
  have hm : M.MayS (c.gen + 1) t := ⟨by omega, by omega, ht⟩
  have hp : M.pos c.o a b < n := by unfold M.pos; split <;> assumption
  obtain ⟨q1, q2, q3, q4⟩ := put_free hf h.wf hp (l := M.slot (c.gen + 1) t) (by have := M.slot_small hm; omega)
  refine (put_any w h cB a b c hc hs ho ⟨hg2.1, hg⟩ ⟨by omega, by omega⟩ t ht).mono ?_
  rintro e w' ⟨rfl, hd, hc', hb'⟩
  rw [q1, M.putC_ok] at hc'
  exact ⟨by rw [q1], _, hd, q2, q3, q4, hc', (found_after hf h.wf hab ha hb ht hcf hg).symm, hb'⟩

theorem crash_nil (w : World) (h : DevAt w dB sB mB n d) (hp : ∀ k, d.P k = none) :
    Calls Try.prog 19 #[.pointer (some ⟨dB, 0, none⟩), .slice none 0 0] w fun e w' => e = .returned (.tuple #[]) ∧ ∃ d', DevAt w' dB sB mB n d' ∧ Free d' ∧ (∀ j : Nat, M.seen d' j = M.seen d j) ∧ But [dB, sB, mB] w w' := by
  refine (crash_any w h none 0 0 [] (krow_nil w) (.inl rfl)).mono ?_
  rintro e w' ⟨rfl, hd, hb⟩
  exact ⟨rfl, _, hd, Free.crash n d [], fun j => seen_crash_none hp [] j, hb⟩

theorem slot2b : (M.slot 2 ⟨#[98]⟩).length = 10 := by
  rw [M.slot_len, M.enc_len]
  decide +kernel

set_option maxHeartbeats 2000000 in
theorem awake_any (w : World) : Calls Try.prog 8 #[] w fun e w' => e = .returned (.bool true) ∧ Below w.heap.size w w' := by
  have hsl := slot2b
  have HSl := Lib.hid hsl
  clear hsl
  go_enter Try.func8, Try.ntmps8
  go_wp2_with fail
  refine (new_yes 3 (by omega) _).mono ?_
  rintro e w1 ⟨dB, sB, mB, rfl, hd0, hb1, l1, l2, l3⟩
  have HD0 := Lib.hid hd0
  have HB1 := Lib.hid hb1
  have HL : Hid (w.heap.size ≤ dB ∧ w.heap.size ≤ sB ∧ w.heap.size ≤ mB) := Lib.hid ⟨l1, l2, l3⟩
  clear hd0 hb1 l1 l2 l3
  go_wp2_with fail
  refine (open_yes _ HD0.out rfl 0 2 (by omega) (by omega) (by omega)).mono ?_
  rintro e w2 ⟨cB, rfl, lc, hc0, hb2⟩
  have HC0 : Hid (CellAt w2 cB dB 0 2 ⟨0, 0, ⟨#[]⟩⟩) := Lib.hid (by have := found_zero; rw [fresh_seen, fresh_seen, this] at hc0; exact hc0)
  have HD1 := Lib.hid (HD0.out.but (But.of_below hb2) (by simp) (by simp) (by simp))
  have HB2 := Lib.hid (HB1.out.trans (hb2.mono HB1.out.size))
  have Hs : Hid (cB ≠ dB ∧ cB ≠ sB ∧ cB ≠ mB) := Lib.hid ⟨by have := HD0.out.ltD; omega, by have := HD0.out.lt; omega, by have := HD0.out.pend.lt; omega⟩
  have HLc : Hid (w.heap.size ≤ cB) := Lib.hid (Nat.le_trans HB1.out.size lc)
  have HOp := Lib.hid (open_same w2 ⟨dB, 0, none⟩ 1)
  have HG := Lib.hid (get_any w2 HC0.out)
  have HN := Lib.hid (gen_any w2 HC0.out)
  clear hc0 hb2 lc
  go_wp2_with (first
    | (go_at_call 13; with_reducible refine HOp.out.mono ?_; rintro e w' ⟨rfl, rfl⟩)
    | (go_at_call 14; with_reducible refine HG.out.mono ?_; rintro e w' ⟨rfl, rfl⟩)
    | (go_at_call 15; with_reducible refine HN.out.mono ?_; rintro e w' ⟨rfl, rfl⟩))
  refine (put_ok _ HD1.out Free.fresh cB 0 2 ⟨0, 0, ⟨#[]⟩⟩ HC0.out Hs.out found_zero.symm (by decide) (by omega) (by omega) (by omega) ⟨#[97]⟩ (by decide)).mono ?_
  rintro e w3 ⟨rfl, d1, hd1, hf1, _, hs1, hc1, hfd1, hb3⟩
  have HD2 := Lib.hid hd1
  have HF1 := Lib.hid hf1
  have HC1 : Hid (CellAt w3 cB dB 0 2 ⟨1, 1, ⟨#[97]⟩⟩) := Lib.hid hc1
  have HFd1 : Hid (M.Cl.mk 1 1 ⟨#[97]⟩ = M.found (M.rdS (M.seen d1 0)) (M.rdS (M.seen d1 2))) := Lib.hid hfd1
  have HB3 := Lib.hid hb3
  clear hd1 hf1 hs1 hc1 hfd1 hb3 HG HN HOp
  go_wp2_with fail
  refine (put_ok _ HD2.out HF1.out cB 0 2 ⟨1, 1, ⟨#[97]⟩⟩ HC1.out Hs.out HFd1.out (by decide) (by omega) (by omega) (by omega) ⟨#[98]⟩ (by decide)).mono ?_
  rintro e w4 ⟨rfl, d2, hd2, hf2, hp2, hs2, hc2, hfd2, hb4⟩
  have HD3 := Lib.hid hd2
  have HP2 := Lib.hid hp2
  have HC2 : Hid (CellAt w4 cB dB 0 2 ⟨0, 2, ⟨#[98]⟩⟩) := Lib.hid hc2
  have HFd2 : Hid (M.Cl.mk 0 2 ⟨#[98]⟩ = M.found (M.rdS (M.seen d2 0)) (M.rdS (M.seen d2 2))) := Lib.hid hfd2
  have HB4 := Lib.hid (HB3.out.trans hb4)
  clear hd2 hf2 hp2 hs2 hc2 hfd2 hb4
  go_wp2_with fail
  refine (crash_nil _ HD3.out HP2.out).mono ?_
  rintro e w5 ⟨rfl, d3, hd3, hf3, hs3, hb5⟩
  have HD4 := Lib.hid hd3
  have HF3 := Lib.hid hf3
  have HS3 := Lib.hid hs3
  have HC3 := Lib.hid (HC2.out.but hb5 (by have := Hs.out; simp; omega))
  have HB5 := Lib.hid (HB4.out.trans (hb5.mono (by simp)))
  clear hd3 hf3 hs3 hb5
  go_wp2_with fail
  refine (open_yes _ HD4.out HF3.out.2 0 2 (by omega) (by omega) (by omega)).mono ?_
  rintro e w6 ⟨kB, rfl, lk, hk, hb6⟩
  have HK : Hid (CellAt w6 kB dB 0 2 ⟨0, 2, ⟨#[98]⟩⟩) := Lib.hid (by rw [HS3.out 0, HS3.out 2, ← HFd2.out] at hk; exact hk)
  have HC4 := Lib.hid (HC3.out.below hb6 HC3.out.lt)
  have HB6 : Hid (Below w.heap.size w w6) := Lib.hid (HB2.out.trans ((HB5.out.to_below (B := w.heap.size) (by have := HL.out; have := HLc.out; simp; omega) HB2.out.size).trans (hb6.mono (Nat.le_trans HB2.out.size HB5.out.size))))
  have HG1 := Lib.hid (get_any w6 HC4.out)
  have HN1 := Lib.hid (gen_any w6 HC4.out)
  have HG2 := Lib.hid (get_any w6 HK.out)
  have HN2 := Lib.hid (gen_any w6 HK.out)
  have HSy := Lib.hid (slot_yes w6 2 ⟨#[98]⟩ ⟨by decide, by decide, by decide⟩)
  rw [HSl.out] at HSy
  clear hk hb6 lk
  go_wp2_with (first
    | (go_at_call 14; with_reducible refine HG1.out.mono ?_; rintro e w' ⟨rfl, rfl⟩)
    | (go_at_call 14; with_reducible refine HG2.out.mono ?_; rintro e w' ⟨rfl, rfl⟩)
    | (go_at_call 15; with_reducible refine HN1.out.mono ?_; rintro e w' ⟨rfl, rfl⟩)
    | (go_at_call 15; with_reducible refine HN2.out.mono ?_; rintro e w' ⟨rfl, rfl⟩)
    | (go_at_call 9; refine HSy.out.mono ?_; rintro e w7 ⟨aS, capS, rfl, ho, hb7⟩; have HB7 := Lib.hid hb7; clear ho hb7))
  go_ret
  exact ⟨rfl, HB6.out.trans (HB7.out.mono HB6.out.size)⟩
end Go.Proofs.Ytipfhcplmlmaeaa
