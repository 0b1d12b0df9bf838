/-
  The document's own sum: what the reference functions answer.
  The document's own slot: what the reference functions answer.
  The document's own cell in memory; what its Put tells, and what becomes of it and its device.
  What a sector says as a slot, by the document's own functions.
  What a sector says as a slot, by the document's own function Read; and what 'clash' tells.
  What Open makes of the document's own cell; where neither the cell nor the document's own is opened.
-/
import Derived.Test.YtpoolpckabpnfaaGreatBrid
import Derived.Test.YtpoolpckabpnfaaGreatCel1
import Derived.Test.YtpoolpckabpnfaaGreatJCR
import Derived.Test.YtpoolpckabpnfaaGreatCel8
import Derived.Test.YtpoolpckabpnfaaGreatJD
import Derived.Test.YtpoolpckabpnfaaGreatCel3
namespace Go.Proofs.YtpoolpckabpnfaaGreat.K
open Go.RowKit
set_option linter.unusedVariables false
set_option linter.unusedSimpArgs false
set_option maxRecDepth 20000

theorem odd_iff (x : BitVec 32) : x.toNat % 2 = 1 ↔ x &&& 1#32 = 1#32 := by
  constructor
  · intro h
    apply BitVec.eq_of_toNat_eq
    rw [BitVec.toNat_and]
    show x.toNat &&& 1 = 1
    rw [Nat.and_one_is_mod]; exact h
  · intro h
    have := congrArg BitVec.toNat h
    rw [BitVec.toNat_and] at this
    have h2 : x.toNat &&& 1 = 1 := this
    rw [Nat.and_one_is_mod] at h2; exact h2

theorem half_odd {x : BitVec 32} (h : x.toNat % 2 = 1) : bits .xor .u32 ((x.toNat : Int) / 2) 2197175160 = ((M.half x).toNat : Int) := by
  rw [div_two, xor_u32, ofInt_toNat]
  unfold M.half; rw [if_pos ((odd_iff x).1 h)]; rfl
theorem half_even {x : BitVec 32} (h : ¬ x.toNat % 2 = 1) : (x.toNat : Int) / 2 = ((M.half x).toNat : Int) := by
  rw [div_two]
  unfold M.half; rw [if_neg (fun g => h ((odd_iff x).2 g))]

set_option maxHeartbeats 400000 in
theorem on_any (x : BitVec 32) (c : Int) (hc : 0 ≤ c ∧ c < 256) (w : World) :
    Calls Tryz.prog 119 #[.int .u32 (x.toNat : Int), .int .u8 c] w fun e w' => e = .returned (.int .u32 ((M.step x c).toNat : Int)) ∧ w = w' := by
  obtain ⟨hc1, hc2⟩ := hc
  go_enter Tryz.func119, Tryz.ntmps119
  go_wp2_with fail
  go_loop [0, 5] (fun r i => ∃ j : Nat, j ≤ 8 ∧ i = .int .i64 j ∧ r = .int .u32 ((M.iter j (x ^^^ BitVec.ofInt 32 c)).toNat : Int)) (fun _ i => 8 - (Go.RowKit.intOf i).toNat)
  case atStart => exact ⟨0, by omega, rfl, by rw [xor_u32, ofInt_toNat]; rfl⟩
  case round =>
    obtain ⟨j, hj, rfl, rfl⟩ := hrel
    by_cases hj8 : j < 8
    · have hsu := iter_succ j (x ^^^ BitVec.ofInt 32 c)
      have hjI : (j : Int) < 8 := by omega
      generalize M.iter j (x ^^^ BitVec.ofInt 32 c) = q at *
      have Hsu := Lib.hid hsu
      clear hsu
      by_cases ho : q.toNat % 2 = 1
      · have e1 : (((q.toNat : Int) % 2) == 1) = true := by rw [beq_iff_eq]; omega
        have Hh := Lib.hid (half_odd ho)
        clear ho
        go_wp2_with fail
        go_round
        case rel => exact ⟨j + 1, by omega, by go_num, by rw [Hsu.out, ← Hh.out]⟩
        case measure => simp [Go.RowKit.intOf]; omega
      · have e1 : (((q.toNat : Int) % 2) == 1) = false := by rw [beq_eq_false_iff_ne]; omega
        have Hh := Lib.hid (half_even ho)
        clear ho
        go_wp2_with fail
        go_round
        case rel => exact ⟨j + 1, by omega, by go_num, by rw [Hsu.out, ← Hh.out]⟩
        case measure => simp [Go.RowKit.intOf]; omega
    · obtain rfl : j = 8 := by omega
      go_wp2_with fail
      go_ret
      exact ⟨rfl, rfl⟩

theorem not_sub (x : BitVec 32) : (4294967295 : Int) - (x.toNat : Int) = ((~~~x).toNat : Int) := by
  have := x.isLt
  rw [BitVec.toNat_not]
  omega

set_option maxHeartbeats 400000 in
theorem refmore_any (x : BitVec 32) (a : Option Addr) (len cap : Nat) (l : List Int) (w : World) (h : Row w a len l) :
    Calls Tryz.prog 100 #[.int .u32 (x.toNat : Int), .slice a len cap] w fun e w' => e = .returned (.int .u32 ((M.more x l).toNat : Int)) ∧ w = w' := by
  have hb : x.toNat < 4294967296 := x.isLt
  obtain ⟨hl, hm, hr, hc⟩ := h
  subst hl
  go_enter Tryz.func100, Tryz.ntmps100
  go_wp2_with fail
  go_loop [5, 6] (fun s i => ∃ k : Nat, k ≤ l.length ∧ i = .int .i64 k ∧ s = .int .u32 ((M.run (~~~x) (l.take k)).toNat : Int)) (fun _ i => l.length - (Go.RowKit.intOf i).toNat)
  case atStart => exact ⟨0, Nat.zero_le _, rfl, by first | rfl | (rw [not_sub]; rfl)⟩
  case round =>
    obtain ⟨k, hk, rfl, rfl⟩ := hrel
    by_cases hlt : k < l.length
    · rcases hc with rfl | ⟨b, off, rfl, hc⟩
      · simp at hlt
      have hcell := hc k hlt
      have hrb := hr (l.getD k 0) (by rw [List.getD_eq_getElem?_getD]; simp [hlt])
      have hsn := run_snoc (~~~x) l k hlt
      have Hsn := Lib.hid hsn
      have hltI : (k : Int) < (l.length : Int) := by omega
      clear hsn hc hr
      generalize hcv : l.getD k 0 = c at *
      have Hcv := Lib.hid hcv
      clear hcv
      generalize hsv : M.run (~~~x) (l.take k) = s at *
      have Hsv := Lib.hid hsv
      have HO := Lib.hid (on_any s c hrb w)
      clear hsv hrb
      go_wp2_with (go_at_call 119; refine HO.out.mono ?_; rintro e w' ⟨rfl, rfl⟩)
      go_round
      case rel => exact ⟨k + 1, by omega, by go_num, by rw [Hsn.out]⟩
      case measure => simp [Go.RowKit.intOf]; omega
    · obtain rfl : k = l.length := by omega
      have hs4 := (M.run (~~~x) l).isLt
      have hend : (4294967295 : Int) - ((M.run (~~~x) l).toNat : Int) = ((M.more x l).toNat : Int) := not_sub _
      have Hend := Lib.hid hend
      have hge : ¬ ((l.length : Int) < (l.length : Int)) := by omega
      clear hend hr hc
      try rw [List.take_length]
      go_wp2_with fail
      go_ret
      exact ⟨by first | exact ret_u32 Hend.out | (rw [← Hend.out]; rfl), rfl⟩

theorem refsum_any (a : Option Addr) (len cap : Nat) (l : List Int) (w : World) (h : Row w a len l) :
    Calls Tryz.prog 88 #[.slice a len cap] w fun e w' => e = .returned (.int .u32 ((M.more 0#32 l).toNat : Int)) ∧ w = w' := by
  have H := Lib.hid (refmore_any 0#32 a len cap l w h)
  clear h
  go_enter Tryz.func88, Tryz.ntmps88
  go_wp2_with (go_at_call 100; refine H.out.mono ?_; rintro e w' ⟨rfl, rfl⟩)
  go_ret
  exact ⟨rfl, rfl⟩
end Go.Proofs.YtpoolpckabpnfaaGreat.K
namespace Go.Proofs.YtpoolpckabpnfaaGreat
open Go.RowKit
set_option linter.unusedVariables false
set_option linter.unusedSimpArgs false
set_option maxRecDepth 20000

theorem framed_len (r : List UInt8) : (M.framed r).length = 4 + (1 + r.length) := by
  simp [M.framed, M.word, M.summed]; omega

set_option maxHeartbeats 1000000 in
theorem refframed_any (w : World) (a : Option Addr) (n cap : Nat) (r : List UInt8) (h : Row w a n cap (u8s r)) (hn : n ≤ 200) :
    Calls Tryz.prog 91 #[.slice a n cap] w fun e w' => ∃ a' cap', e = .returned (.slice a' (M.framed r).length cap') ∧ OwnB w' w.heap.size a' (M.framed r).length cap' (M.framed r) ∧ Below w.heap.size w w' := by
  have hl : r.length = n := by have := h.1; rwa [u8s_length] at this
  subst hl
  have HR := Lib.hid h
  have HS := Lib.hid hn
  have hlenI : (r.length : Int) ≤ 200 := by omega
  have HB : Hid ((r.length : Int) = (((UInt8.ofNat r.length).toNat : Nat) : Int)) := Lib.hid (by rw [C.M.toNat_ofNat (by omega)])
  have HSl : Hid (M.framed r = M.word (M.sumB (M.summed r)) ++ M.summed r) := Lib.hid rfl
  have HLn := Lib.hid (framed_len r)
  generalize M.framed r = sl at *
  clear h hn
  go_enter Tryz.func91, Tryz.ntmps91
  go_wp2_with (first
    | (at_builtin
       refine append_bytes _ rfl (.tmp 8) (.tmp 9) rfl w.heap.size _ 1 1 [UInt8.ofNat r.length] rfl (own_byte w w.heap.size _ _ HB.out (Nat.le_refl _)) a r.length cap r rfl (row_below HR.out ((Below.refl w.heap.size w).alloc (Nat.le_refl _) _) (Nat.le_refl _)) (1 + r.length) rfl (by have := HS.out; omega) (by simp) ?_
       intro a2 cap2 w2 hown2 hb2
       have Ho2 : Hid (OwnB w2 w.heap.size a2 (1 + r.length) cap2 (M.summed r)) := Lib.hid hown2
       have Hb2 : Hid (Below w.heap.size w w2) := Lib.hid (((Below.refl _ w).alloc (Nat.le_refl _) _).trans hb2)
       clear hown2 hb2)
    | (go_at_call 88; refine (K.refsum_any _ _ _ (M.ints8 (M.summed r)) _ (k_row Ho2.out.row (by have := HS.out; omega))).mono ?_; rintro e w' ⟨rfl, rfl⟩
       have HSl2 : Hid (sl = M.word (K.M.more 0#32 (M.ints8 (M.summed r))) ++ M.summed r) := Lib.hid HSl.out
       clear HSl
       generalize K.M.more 0#32 (M.ints8 (M.summed r)) = sm at *)
    | (at_builtin
       refine append_bytes _ rfl (.tmp 24) (.tmp 25) rfl w.heap.size _ 4 4 (M.word sm) rfl (own_word w2 w.heap.size sm Hb2.out.size) a2 (1 + r.length) cap2 (M.summed r) rfl (row_below Ho2.out.row ((Below.refl w2.heap.size w2).alloc (Nat.le_refl _) _) (Nat.le_refl _)) (4 + (1 + r.length)) rfl (by have := HS.out; omega) (by have := Hb2.out.size; simp; omega) ?_
       intro a3 cap3 w3 hown3 hb3
       have Ho3 : Hid (OwnB w3 w.heap.size a3 (4 + (1 + r.length)) cap3 (M.word sm ++ M.summed r)) := Lib.hid hown3
       have Hb3 : Hid (Below w.heap.size w w3) := Lib.hid ((Hb2.out.alloc Hb2.out.size _).trans hb3)
       clear hown3 hb3))
  go_ret
  refine ⟨a3, cap3, ?_, ?_, Hb3.out⟩
  · rw [HLn.out]; rfl
  · rw [HLn.out, HSl2.out]; exact Ho3.out

theorem refenc_slot (w : World) (g : Int) (t : ByteArray) (h : M.MayS g t) :
    Calls Tryz.prog 60 #[.agg #[.int .i64 1, .slice (some ⟨w.heap.size, 0, none⟩) 1 1, .slice (some ⟨w.heap.size + 1, 0, none⟩) 1 1]] ((w.alloc (.cells #[.int .i64 g] 2)).alloc (.cells #[.string t] 9)) fun e w' =>
      ∃ a cap, e = .returned (.tuple #[.slice a (C.M.enc (M.recS g t)).length cap, .int .i64 0]) ∧ OwnB w' (w.heap.size + 2) a (C.M.enc (M.recS g t)).length cap (C.M.enc (M.recS g t)) ∧ Below w.heap.size w w' := by
  obtain ⟨hm, hf⟩ := M.recS_may h
  refine (C.refencode_yes _ (M.recS g t) _ _ _ _ _ _ (recs_at w g t) hm hf).mono ?_
  rintro e w' ⟨a, cap, rfl, ho, hb⟩
  have hs : ((w.alloc (.cells #[.int .i64 g] 2)).alloc (.cells #[.string t] 9)).heap.size = w.heap.size + 2 := by simp
  rw [hs] at ho hb
  exact ⟨a, cap, rfl, ho, (((Below.refl w.heap.size w).alloc (Nat.le_refl _) _).alloc (by simp) _).trans (hb.mono (by omega))⟩

theorem refslot_yes (w : World) (g : Int) (t : ByteArray) (h : M.MayS g t) :
    Calls Tryz.prog 79 #[.int .i64 g, .string t] w fun e w' => ∃ a cap, e = .returned (.slice a (M.slot g t).length cap) ∧ OwnB w' w.heap.size a (M.slot g t).length cap (M.slot g t) ∧ Below w.heap.size w w' := by
  have HE := Lib.hid (refenc_slot w g t h)
  have hsm := M.enc_small h
  have HS := Lib.hid hsm
  obtain ⟨h1, h2, h3⟩ := h
  have h3I : (t.size : Int) ≤ 100 := by omega
  have HF := Lib.hid (fun w1 a cap h => refframed_any w1 a (C.M.enc (M.recS g t)).length cap (C.M.enc (M.recS g t)) h (by omega))
  change Hid (∀ w1 a cap, _ → Calls Tryz.prog 91 _ w1 fun e w' => ∃ a' cap', e = .returned (.slice a' (M.slot g t).length cap') ∧ OwnB w' w1.heap.size a' (M.slot g t).length cap' (M.slot g t) ∧ Below w1.heap.size w1 w') at HF
  generalize M.slot g t = sl at *
  generalize C.M.enc (M.recS g t) = r at *
  clear hsm h3
  go_enter Tryz.func79, Tryz.ntmps79
  go_wp2_with (first
    | (go_at_call 60; refine HE.out.mono ?_; rintro e w1 ⟨a, cap, rfl, ho, hb⟩
       have Ho := Lib.hid ho
       have Hb := Lib.hid hb
       clear ho hb)
    | (go_at_call 91; refine (HF.out w1 a cap Ho.out.row).mono ?_; rintro e w2 ⟨a2, cap2, rfl, ho2, hb2⟩
       have Ho2 := Lib.hid ho2
       have Hb2 := Lib.hid (Hb.out.trans (hb2.mono Hb.out.size))
       clear ho2 hb2))
  go_ret
  exact ⟨a2, cap2, rfl, C.own_mono Ho2.out Hb.out.size, Hb2.out⟩

theorem refslot_no (w : World) (g : Int) (t : ByteArray) (h : ¬ M.MayS g t) :
    Calls Tryz.prog 79 #[.int .i64 g, .string t] w fun e w' => e = .returned (.slice none 0 0) ∧ w = w' := by
  by_cases h1 : g < 1
  · clear h
    go_enter Tryz.func79, Tryz.ntmps79
    go_wp2
    go_ret
    exact ⟨rfl, rfl⟩
  · by_cases h2 : 4611686018427387904 < g
    · clear h
      go_enter Tryz.func79, Tryz.ntmps79
      go_wp2
      go_ret
      exact ⟨rfl, rfl⟩
    · have h3 : (100 : Int) < (t.size : Int) := by
        have : ¬ t.size ≤ 100 := fun hs => h ⟨by omega, by omega, hs⟩
        omega
      clear h
      go_enter Tryz.func79, Tryz.ntmps79
      go_wp2
      go_ret
      exact ⟨rfl, rfl⟩
end Go.Proofs.YtpoolpckabpnfaaGreat
namespace Go.Proofs.YtpoolpckabpnfaaGreat
open Go.RowKit
set_option linter.unusedVariables false
set_option linter.unusedSimpArgs false
set_option maxRecDepth 20000

variable {rB LB n : Nat} {d : M.Dv}

/-- the document's cell in memory: its own block; z tells which slot is the present one -/
structure RCell (w : World) (kB rB a b z : Nat) (c : M.Cl) : Prop where
  p0 : w.cell? ⟨kB, 0, none⟩ = some (.pointer (some ⟨rB, 0, none⟩))
  p1 : w.cell? ⟨kB, 1, none⟩ = some (.int .i64 (a : Int))
  p2 : w.cell? ⟨kB, 2, none⟩ = some (.int .i64 (b : Int))
  p3 : w.cell? ⟨kB, 3, none⟩ = some (.int .i64 (z : Int))
  p4 : w.cell? ⟨kB, 4, none⟩ = some (.int .i64 c.gen)
  p5 : w.cell? ⟨kB, 5, none⟩ = some (.string c.text)
  fz : ∀ o, w.frozen? ⟨kB, o, none⟩ = false

theorem RCell.lt {w : World} {kB rB a b z : Nat} {c : M.Cl} (h : RCell w kB rB a b z c) : kB < w.heap.size := World.block_lt_of_cell? w _ h.p0
theorem RCell.of_block {w w' : World} {kB rB a b z : Nat} {c : M.Cl} (h : RCell w kB rB a b z c) (hb : w'.heap[kB]? = w.heap[kB]?) : RCell w' kB rB a b z c where
  p0 := by rw [World.cell?_of_block (w := w) (a := ⟨kB, 0, none⟩) hb]; exact h.p0
  p1 := by rw [World.cell?_of_block (w := w) (a := ⟨kB, 1, none⟩) hb]; exact h.p1
  p2 := by rw [World.cell?_of_block (w := w) (a := ⟨kB, 2, none⟩) hb]; exact h.p2
  p3 := by rw [World.cell?_of_block (w := w) (a := ⟨kB, 3, none⟩) hb]; exact h.p3
  p4 := by rw [World.cell?_of_block (w := w) (a := ⟨kB, 4, none⟩) hb]; exact h.p4
  p5 := by rw [World.cell?_of_block (w := w) (a := ⟨kB, 5, none⟩) hb]; exact h.p5
  fz := fun o => by rw [World.frozen?_of_block (w := w) (a := ⟨kB, o, none⟩) hb]; exact h.fz o
theorem RCell.but {w w' : World} {kB rB a b z : Nat} {c : M.Cl} (h : RCell w kB rB a b z c) {l : List Nat} (hb : But l w w') (hn : kB ∉ l) : RCell w' kB rB a b z c := h.of_block (hb.block _ h.lt hn)
theorem RCell.below {w w' : World} {kB rB a b z B : Nat} {c : M.Cl} (h : RCell w kB rB a b z c) (hb : Below B w w') (hB : kB < B) : RCell w' kB rB a b z c := h.of_block (hb.block _ hB)

/-- which slot is the present one behind a put that tells e -/
def zN (e : Int) (y z : Nat) : Nat := if e = 0 then y else z
theorem zN_ok (y z : Nat) : zN 0 y z = y := if_pos rfl
theorem zN_no {e : Int} (h : e ≠ 0) (y z : Nat) : zN e y z = z := if_neg h

/-- the three last parts turned, one after another -/
theorem RCell.set {w : World} {kB rB a b z : Nat} {c : M.Cl} (h : RCell w kB rB a b z c) (y o : Nat) (g : Int) (t : ByteArray) :
    RCell (((w.setCell ⟨kB, 3, none⟩ (.int .i64 (y : Int))).setCell ⟨kB, 4, none⟩ (.int .i64 g)).setCell ⟨kB, 5, none⟩ (.string t)) kB rB a b y ⟨o, g, t⟩ where
  p0 := by rw [World.cell?_setCell_other _ _ _ _ (by simp), World.cell?_setCell_other _ _ _ _ (by simp), World.cell?_setCell_other _ _ _ _ (by simp)]; exact h.p0
  p1 := by rw [World.cell?_setCell_other _ _ _ _ (by simp), World.cell?_setCell_other _ _ _ _ (by simp), World.cell?_setCell_other _ _ _ _ (by simp)]; exact h.p1
  p2 := by rw [World.cell?_setCell_other _ _ _ _ (by simp), World.cell?_setCell_other _ _ _ _ (by simp), World.cell?_setCell_other _ _ _ _ (by simp)]; exact h.p2
  p3 := by
    rw [World.cell?_setCell_other _ _ _ _ (by simp), World.cell?_setCell_other _ _ _ _ (by simp)]
    exact World.cell?_setCell_same _ _ _ h.p3
  p4 := by
    rw [World.cell?_setCell_other _ _ _ _ (by simp)]
    exact World.cell?_setCell_same _ _ _ (show _ = some (Value.int .i64 c.gen) by rw [World.cell?_setCell_other _ _ _ _ (by simp)]; exact h.p4)
  p5 := World.cell?_setCell_same _ _ _ (show _ = some (Value.string c.text) by rw [World.cell?_setCell_other _ _ _ _ (by simp), World.cell?_setCell_other _ _ _ _ (by simp)]; exact h.p5)
  fz := fun o => by rw [World.frozen?_setCell, World.frozen?_setCell, World.frozen?_setCell]; exact h.fz o

theorem rput_seq (w : World) {kB a b z : Nat} {c : M.Cl} (hc : RCell w kB rB a b z c) (hg : c.gen = 4611686018427387904) (t : ByteArray) (ht : t.size ≤ 100) :
    Calls Tryz.prog 61 #[.pointer (some ⟨kB, 0, none⟩), .string t] w fun e w' => e = .returned (.int .i64 23) ∧ w = w' := by
  have p4 := hc.p4
  rw [hg] at p4
  have h' : (t.size : Int) ≤ 100 := by omega
  clear hc hg ht
  go_enter Tryz.func61, Tryz.ntmps61
  go_wp2
  go_ret
  exact ⟨rfl, rfl⟩

set_option maxHeartbeats 4000000 in
theorem rput_0 (w : World) (h : RefAt w rB LB n d) (kB a b z : Nat) (g : Int) (t0 : ByteArray) (hc : RCell w kB rB a b z ⟨0, g, t0⟩) (hz : z = 0 ∨ z = 2) (hs : kB ≠ rB ∧ kB ≠ LB) (hg : 0 ≤ g ∧ g < 4611686018427387904) (hab : a ≤ 1000 ∧ b ≤ 1000) (t : ByteArray) (ht : t.size ≤ 100) :
    Calls Tryz.prog 61 #[.pointer (some ⟨kB, 0, none⟩), .string t] w fun e w' => e = .returned (.int .i64 (M.putE n d a (M.slot (g + 1) t))) ∧ RefAt w' rB LB n (M.putD n d a (M.slot (g + 1) t)) ∧
      RCell w' kB rB a b (zN (M.putE n d a (M.slot (g + 1) t)) 1 z) (M.putC (M.putE n d a (M.slot (g + 1) t)) ⟨0, g, t0⟩ t) ∧ But [rB, LB, kB] w w' := by
  have hm : M.MayS (g + 1) t := ⟨by omega, by omega, ht⟩
  have hwr : IntKind.i64.wrap (g + 1) = g + 1 := by
    obtain ⟨h0, h1⟩ := hg
    simp [IntKind.wrap, IntKind.bits, IntKind.signed]; omega
  have HS := Lib.hid (refslot_yes w.drew (g + 1) t hm)
  rw [show Calls Tryz.prog 79 #[.int .i64 (g + 1), .string t] w.drew = Calls Tryz.prog 79 #[.int .i64 (IntKind.i64.wrap (g + 1)), .string t] w.drew by rw [hwr]] at HS
  clear hwr
  have HLn := Lib.hid (M.slot_small hm)
  have HD := Lib.hid h
  have HC := Lib.hid hc
  have Hs := Lib.hid hs
  have Hg := Lib.hid hg
  have m0 := hc.p0
  have m1 := hc.p1
  have m2 := hc.p2
  have m3 : w.cell? ⟨kB, 3, none⟩ = some (.int .i64 (z : Int)) := hc.p3
  have m4 : w.cell? ⟨kB, 4, none⟩ = some (.int .i64 g) := hc.p4
  have hzne : ((z : Int) == 1) = false := by rw [beq_eq_false_iff_ne]; omega
  have hx0 : (0 : Int) ≤ (a : Int) := by omega
  have hx1 : (a : Int) ≤ 1000 := by omega
  have ht' : (t.size : Int) ≤ 100 := by omega
  have hgne : (g == 4611686018427387904) = false := by rw [beq_eq_false_iff_ne]; omega
  obtain ⟨hg0, hg1⟩ := hg
  generalize M.slot (g + 1) t = sl at *
  clear h hc hs hm hab ht
  go_enter Tryz.func61, Tryz.ntmps61
  go_wp2_with fail
  go_region_held3 (fun w' => w'.cell? ⟨kB, 0, none⟩ = some (.pointer (some ⟨rB, 0, none⟩)) ∧ w'.cell? ⟨kB, 4, none⟩ = some (.int .i64 g))
    (first
      | exact ⟨m0, m4⟩
      | exact ⟨HC1.out.p0, HC1.out.p4⟩
      | exact ⟨HC2.out.p0, HC2.out.p4⟩)
    (first
      | (go_at_call 79; refine HS.out.mono ?_; rintro e w1 ⟨aS, capS, rfl, ho, hb⟩
         have Ho := Lib.hid ho
         have Hb := Lib.hid hb
         have HC1 := Lib.hid ((HC.out.of_block (w' := w.drew) rfl).below hb HC.out.lt)
         have HD1 := Lib.hid (HD.out.drew.but (But.of_below hb) (by simp) (by simp))
         clear ho hb)
      | (go_at_call 20; refine (rwrite_any w1 HD1.out (a : Int) (by omega) (by omega) _ _ _ sl Ho.out.row (.inr fun b off e => by have := (Ho.out.at b off e).1; have := HD.out.drew.ltR; simp; omega)).mono ?_; rintro e w2 ⟨rfl, hd2, hb2⟩
         have HD2 := Lib.hid hd2
         have HB2 : Hid (But [rB, LB, kB] w w2) := Lib.hid ((((But.refl _ w).drew).trans ((But.of_below Hb.out).mono (by simp))).trans (hb2.mono (by simp)))
         have HC2 := Lib.hid (HC1.out.but hb2 (by have := Hs.out; simp; omega))
         clear hd2 hb2))
  by_cases e1 : M.writeE n d (a : Int) sl = 0
  · have HE1 := Lib.hid e1
    have n0 := HC2.out.p0
    rw [e1]
    clear e1 m0 m1 m2 m3 m4 HC1 HD1
    have HBa := Lib.hid (rbarrier_any w2 HD2.out)
    generalize hbe : M.barrierE (M.writeD n d (a : Int) sl) = e2 at HBa
    have HE2 := Lib.hid hbe
    clear hbe
    go_wp2_with fail
    refine HBa.out.mono ?_
    rintro e w3 ⟨rfl, hd3, hb3⟩
    have HD3 := Lib.hid hd3
    have HB3 : Hid (But [rB, LB, kB] w w3) := Lib.hid (HB2.out.trans (hb3.mono (by simp)))
    have HC3 := Lib.hid (HC2.out.but hb3 (by have := Hs.out; simp; omega))
    have hpd : M.putD n d a sl = M.barrierD (M.writeD n d (a : Int) sl) := by unfold M.putD; rw [if_pos HE1.out]
    have hpe : M.putE n d a sl = e2 := by unfold M.putE; rw [if_pos HE1.out]; exact HE2.out
    have HPd := Lib.hid hpd
    have HPe := Lib.hid hpe
    clear hd3 hb3 n0 hpd hpe
    by_cases hz : e2 = 0
    · subst hz
      have k3 : w3.cell? ⟨kB, 3, none⟩ = some (.int .i64 (z : Int)) := HC3.out.p3
      have k4 : w3.cell? ⟨kB, 4, none⟩ = some (.int .i64 g) := HC3.out.p4
      have k5 := HC3.out.p5
      have f3 := HC3.out.fz 3
      have f4 := HC3.out.fz 4
      have f5 := HC3.out.fz 5
      go_wp2_with fail
      have HK := Lib.hid (HC3.out.set 1 (1 - 0) (g + 1) t)
      have HKB : Hid (But [rB, LB, kB] w (((w3.setCell ⟨kB, 3, none⟩ (.int .i64 1)).setCell ⟨kB, 4, none⟩ (.int .i64 (g + 1))).setCell ⟨kB, 5, none⟩ (.string t))) := Lib.hid (((HB3.out.set _ (.inl (by simp))).set _ (.inl (by simp))).set _ (.inl (by simp)))
      have HKD : Hid (RefAt (((w3.setCell ⟨kB, 3, none⟩ (.int .i64 1)).setCell ⟨kB, 4, none⟩ (.int .i64 (g + 1))).setCell ⟨kB, 5, none⟩ (.string t)) rB LB n (M.barrierD (M.writeD n d (a : Int) sl))) := Lib.hid (HD3.out.but ((((But.refl [kB] w3).set _ (.inl (by simp))).set _ (.inl (by simp))).set _ (.inl (by simp))) (by have := Hs.out; simp; omega) (by have := Hs.out; simp; omega))
      go_ret
      exact ⟨by rw [HPe.out]; rfl, by rw [HPd.out]; exact HKD.out, by rw [HPe.out, M.putC_ok, zN_ok]; exact HK.out, HKB.out⟩
    · have hz1 : (e2 == 0) = false := by simpa using hz
      have Hz := Lib.hid hz
      clear hz
      go_wp2_with fail
      go_ret
      exact ⟨by rw [HPe.out]; rfl, by rw [HPd.out]; exact HD3.out, by rw [HPe.out, M.putC_no Hz.out, zN_no Hz.out]; exact HC3.out, HB3.out⟩
  · have hpe : M.putE n d a sl = M.writeE n d (a : Int) sl := by unfold M.putE; rw [if_neg e1]
    have hpd : M.putD n d a sl = M.writeD n d (a : Int) sl := by unfold M.putD; rw [if_neg e1]
    have HPd := Lib.hid hpd
    have HPe := Lib.hid hpe
    have He1 := Lib.hid e1
    clear hpe hpd
    generalize M.writeE n d (a : Int) sl = e3 at *
    have hz1 : (e3 == 0) = false := by simpa using e1
    clear e1
    go_wp2_with fail
    go_ret
    exact ⟨by rw [HPe.out]; rfl, by rw [HPd.out]; exact HD2.out, by rw [HPe.out, M.putC_no He1.out, zN_no He1.out]; exact HC2.out, HB2.out⟩

set_option maxHeartbeats 4000000 in
theorem rput_1 (w : World) (h : RefAt w rB LB n d) (kB a b : Nat) (g : Int) (t0 : ByteArray) (hc : RCell w kB rB a b 1 ⟨1, g, t0⟩) (hs : kB ≠ rB ∧ kB ≠ LB) (hg : 0 ≤ g ∧ g < 4611686018427387904) (hab : a ≤ 1000 ∧ b ≤ 1000) (t : ByteArray) (ht : t.size ≤ 100) :
    Calls Tryz.prog 61 #[.pointer (some ⟨kB, 0, none⟩), .string t] w fun e w' => e = .returned (.int .i64 (M.putE n d b (M.slot (g + 1) t))) ∧ RefAt w' rB LB n (M.putD n d b (M.slot (g + 1) t)) ∧
      RCell w' kB rB a b (zN (M.putE n d b (M.slot (g + 1) t)) 2 1) (M.putC (M.putE n d b (M.slot (g + 1) t)) ⟨1, g, t0⟩ t) ∧ But [rB, LB, kB] w w' := by
  have hm : M.MayS (g + 1) t := ⟨by omega, by omega, ht⟩
  have hwr : IntKind.i64.wrap (g + 1) = g + 1 := by
    obtain ⟨h0, h1⟩ := hg
    simp [IntKind.wrap, IntKind.bits, IntKind.signed]; omega
  have HS := Lib.hid (refslot_yes w.drew (g + 1) t hm)
  rw [show Calls Tryz.prog 79 #[.int .i64 (g + 1), .string t] w.drew = Calls Tryz.prog 79 #[.int .i64 (IntKind.i64.wrap (g + 1)), .string t] w.drew by rw [hwr]] at HS
  clear hwr
  have HLn := Lib.hid (M.slot_small hm)
  have HD := Lib.hid h
  have HC := Lib.hid hc
  have Hs := Lib.hid hs
  have Hg := Lib.hid hg
  have m0 := hc.p0
  have m1 := hc.p1
  have m2 := hc.p2
  have m3 : w.cell? ⟨kB, 3, none⟩ = some (.int .i64 1) := hc.p3
  have m4 : w.cell? ⟨kB, 4, none⟩ = some (.int .i64 g) := hc.p4
  have hx0 : (0 : Int) ≤ (b : Int) := by omega
  have hx1 : (b : Int) ≤ 1000 := by omega
  have ht' : (t.size : Int) ≤ 100 := by omega
  have hgne : (g == 4611686018427387904) = false := by rw [beq_eq_false_iff_ne]; omega
  obtain ⟨hg0, hg1⟩ := hg
  generalize M.slot (g + 1) t = sl at *
  clear h hc hs hm hab ht
  go_enter Tryz.func61, Tryz.ntmps61
  go_wp2_with fail
  go_region_held3 (fun w' => w'.cell? ⟨kB, 0, none⟩ = some (.pointer (some ⟨rB, 0, none⟩)) ∧ w'.cell? ⟨kB, 4, none⟩ = some (.int .i64 g))
    (first
      | exact ⟨m0, m4⟩
      | exact ⟨HC1.out.p0, HC1.out.p4⟩
      | exact ⟨HC2.out.p0, HC2.out.p4⟩)
    (first
      | (go_at_call 79; refine HS.out.mono ?_; rintro e w1 ⟨aS, capS, rfl, ho, hb⟩
         have Ho := Lib.hid ho
         have Hb := Lib.hid hb
         have HC1 := Lib.hid ((HC.out.of_block (w' := w.drew) rfl).below hb HC.out.lt)
         have HD1 := Lib.hid (HD.out.drew.but (But.of_below hb) (by simp) (by simp))
         clear ho hb)
      | (go_at_call 20; refine (rwrite_any w1 HD1.out (b : Int) (by omega) (by omega) _ _ _ sl Ho.out.row (.inr fun b off e => by have := (Ho.out.at b off e).1; have := HD.out.drew.ltR; simp; omega)).mono ?_; rintro e w2 ⟨rfl, hd2, hb2⟩
         have HD2 := Lib.hid hd2
         have HB2 : Hid (But [rB, LB, kB] w w2) := Lib.hid ((((But.refl _ w).drew).trans ((But.of_below Hb.out).mono (by simp))).trans (hb2.mono (by simp)))
         have HC2 := Lib.hid (HC1.out.but hb2 (by have := Hs.out; simp; omega))
         clear hd2 hb2))
  by_cases e1 : M.writeE n d (b : Int) sl = 0
  · have HE1 := Lib.hid e1
    have n0 := HC2.out.p0
    rw [e1]
    clear e1 m0 m1 m2 m3 m4 HC1 HD1
    have HBa := Lib.hid (rbarrier_any w2 HD2.out)
    generalize hbe : M.barrierE (M.writeD n d (b : Int) sl) = e2 at HBa
    have HE2 := Lib.hid hbe
    clear hbe
    go_wp2_with fail
    refine HBa.out.mono ?_
    rintro e w3 ⟨rfl, hd3, hb3⟩
    have HD3 := Lib.hid hd3
    have HB3 : Hid (But [rB, LB, kB] w w3) := Lib.hid (HB2.out.trans (hb3.mono (by simp)))
    have HC3 := Lib.hid (HC2.out.but hb3 (by have := Hs.out; simp; omega))
    have hpd : M.putD n d b sl = M.barrierD (M.writeD n d (b : Int) sl) := by unfold M.putD; rw [if_pos HE1.out]
    have hpe : M.putE n d b sl = e2 := by unfold M.putE; rw [if_pos HE1.out]; exact HE2.out
    have HPd := Lib.hid hpd
    have HPe := Lib.hid hpe
    clear hd3 hb3 n0 hpd hpe
    by_cases hz : e2 = 0
    · subst hz
      have k3 : w3.cell? ⟨kB, 3, none⟩ = some (.int .i64 1) := HC3.out.p3
      have k4 : w3.cell? ⟨kB, 4, none⟩ = some (.int .i64 g) := HC3.out.p4
      have k5 := HC3.out.p5
      have f3 := HC3.out.fz 3
      have f4 := HC3.out.fz 4
      have f5 := HC3.out.fz 5
      go_wp2_with fail
      have HK := Lib.hid (HC3.out.set 2 (1 - 1) (g + 1) t)
      have HKB : Hid (But [rB, LB, kB] w (((w3.setCell ⟨kB, 3, none⟩ (.int .i64 2)).setCell ⟨kB, 4, none⟩ (.int .i64 (g + 1))).setCell ⟨kB, 5, none⟩ (.string t))) := Lib.hid (((HB3.out.set _ (.inl (by simp))).set _ (.inl (by simp))).set _ (.inl (by simp)))
      have HKD : Hid (RefAt (((w3.setCell ⟨kB, 3, none⟩ (.int .i64 2)).setCell ⟨kB, 4, none⟩ (.int .i64 (g + 1))).setCell ⟨kB, 5, none⟩ (.string t)) rB LB n (M.barrierD (M.writeD n d (b : Int) sl))) := Lib.hid (HD3.out.but ((((But.refl [kB] w3).set _ (.inl (by simp))).set _ (.inl (by simp))).set _ (.inl (by simp))) (by have := Hs.out; simp; omega) (by have := Hs.out; simp; omega))
      go_ret
      exact ⟨by rw [HPe.out]; rfl, by rw [HPd.out]; exact HKD.out, by rw [HPe.out, M.putC_ok, zN_ok]; exact HK.out, HKB.out⟩
    · have hz1 : (e2 == 0) = false := by simpa using hz
      have Hz := Lib.hid hz
      clear hz
      go_wp2_with fail
      go_ret
      exact ⟨by rw [HPe.out]; rfl, by rw [HPd.out]; exact HD3.out, by rw [HPe.out, M.putC_no Hz.out, zN_no Hz.out]; exact HC3.out, HB3.out⟩
  · have hpe : M.putE n d b sl = M.writeE n d (b : Int) sl := by unfold M.putE; rw [if_neg e1]
    have hpd : M.putD n d b sl = M.writeD n d (b : Int) sl := by unfold M.putD; rw [if_neg e1]
    have HPd := Lib.hid hpd
    have HPe := Lib.hid hpe
    have He1 := Lib.hid e1
    clear hpe hpd
    generalize M.writeE n d (b : Int) sl = e3 at *
    have hz1 : (e3 == 0) = false := by simpa using e1
    clear e1
    go_wp2_with fail
    go_ret
    exact ⟨by rw [HPe.out]; rfl, by rw [HPd.out]; exact HD2.out, by rw [HPe.out, M.putC_no He1.out, zN_no He1.out]; exact HC2.out, HB2.out⟩

/-- which slot is the present one, and which one is written next -/
def ZO (z o : Nat) : Prop := (z = 1 ∧ o = 1) ∨ ((z = 0 ∨ z = 2) ∧ o = 0)

theorem rput_all (w : World) (h : RefAt w rB LB n d) (kB a b z : Nat) (c : M.Cl) (hc : RCell w kB rB a b z c) (hz : ZO z c.o) (hs : kB ≠ rB ∧ kB ≠ LB) (hg : 0 ≤ c.gen ∧ c.gen ≤ 4611686018427387904) (hab : a ≤ 1000 ∧ b ≤ 1000) (t : ByteArray) (ht : t.size ≤ 100) :
    Calls Tryz.prog 61 #[.pointer (some ⟨kB, 0, none⟩), .string t] w fun e w' => e = .returned (.int .i64 (M.puE n d a b c t)) ∧ RefAt w' rB LB n (M.puD n d a b c t) ∧
      (∃ z', ZO z' (M.puC n d a b c t).o ∧ RCell w' kB rB a b z' (M.puC n d a b c t)) ∧ But [rB, LB, kB] w w' := by
  unfold M.puE M.puD M.puC
  by_cases hq : c.gen = 4611686018427387904
  · rw [if_pos hq, if_pos hq, if_pos hq]
    refine (rput_seq w hc hq t ht).mono ?_
    rintro e w' ⟨rfl, rfl⟩
    exact ⟨rfl, h, ⟨z, hz, hc⟩, But.refl _ _⟩
  · rw [if_neg hq, if_neg hq, if_neg hq]
    obtain ⟨o, g, t0⟩ := c
    simp only at hz hg hq ⊢
    rcases hz with ⟨rfl, rfl⟩ | ⟨hz, rfl⟩
    · refine (rput_1 w h kB a b g t0 hc hs ⟨hg.1, by omega⟩ hab t ht).mono ?_
      rintro e w' ⟨rfl, h1, h2, h3⟩
      refine ⟨rfl, h1, ⟨_, ?_, h2⟩, h3⟩
      change ZO _ (M.putC (M.putE n d b (M.slot (g + 1) t)) ⟨1, g, t0⟩ t).o
      by_cases he : M.putE n d b (M.slot (g + 1) t) = 0
      · rw [he, zN_ok, M.putC_ok]; exact .inr ⟨.inr rfl, rfl⟩
      · rw [zN_no he, M.putC_no he]; exact .inl ⟨rfl, rfl⟩
    · refine (rput_0 w h kB a b z g t0 hc hz hs ⟨hg.1, by omega⟩ hab t ht).mono ?_
      rintro e w' ⟨rfl, h1, h2, h3⟩
      refine ⟨rfl, h1, ⟨_, ?_, h2⟩, h3⟩
      change ZO _ (M.putC (M.putE n d a (M.slot (g + 1) t)) ⟨0, g, t0⟩ t).o
      by_cases he : M.putE n d a (M.slot (g + 1) t) = 0
      · rw [he, zN_ok, M.putC_ok]; exact .inl ⟨rfl, rfl⟩
      · rw [zN_no he, M.putC_no he]; exact .inr ⟨hz, rfl⟩
end Go.Proofs.YtpoolpckabpnfaaGreat
namespace Go.Proofs.YtpoolpckabpnfaaGreat
open Go.RowKit
set_option linter.unusedVariables false
set_option linter.unusedSimpArgs false
set_option maxRecDepth 20000

theorem mul_four (z0 z1 z2 z3 : Nat) (h0 : z0 < 256) (h1 : z1 < 256) (h2 : z2 < 256) (h3 : z3 < 256) :
    (z0 : Int) * 16777216 + (z1 : Int) * 65536 + (z2 : Int) * 256 + (z3 : Int) = ((z0 * 16777216 + z1 * 65536 + z2 * 256 + z3 : Nat) : Int) := by omega

def zrec : Value := .agg #[.int .i64 0, .slice none 0 0, .slice none 0 0]

/-- two records of zeros, as Unframed lays them -/
def two0 (w : World) : World := (w.alloc (.cells #[.int .i64 0, .slice none 0 0, .slice none 0 0] 80)).alloc (.cells #[.int .i64 0, .slice none 0 0, .slice none 0 0] 80)
theorem two0_below (w : World) : Below w.heap.size w (two0 w) := ((Below.refl _ _).alloc (Nat.le_refl _) _).alloc (by simp) _

theorem unf_short (w : World) (b off n cap : Nat) (z0 z1 z2 z3 z4 : Nat) (h : Five w b off n cap z0 z1 z2 z3 z4) (hlt : b < w.heap.size) (hn : n ≤ 1000) (hk : n < 5 + z4) :
    Calls Tryz.prog 71 #[.slice (some ⟨b, off, none⟩) n cap] w fun e w' => e = .returned (.tuple #[zrec, .bool false]) ∧ Below w.heap.size w w' := by
  obtain ⟨g0, g1, g2, g3, g4', b0, b1, b2, b3, b4, n5, nc⟩ := h
  have g4 : (two0 w).cell? ⟨b, off + 4, none⟩ = some (.int .u8 (z4 : Int)) := by rw [(two0_below w).cell (p := ⟨b, off + 4, none⟩) hlt]; exact g4'
  have hB := Lib.hid (two0_below w)
  unfold two0 at g4 hB
  have hk1 : (z4 : Int) < 256 := by omega
  have hk0 : (0 : Int) ≤ (z4 : Int) := by omega
  have hgt : (n : Int) < 5 + (z4 : Int) := by omega
  have hn5 : (5 : Int) ≤ (n : Int) := by omega
  clear hk nc n5 g0 g1 g2 g3 g4'
  go_enter Tryz.func71, Tryz.ntmps71
  go_wp2_with fail
  refine bodyPost_ret (v := .tuple #[zrec, .bool false]) (by simp [zrec, results, Tryz.results71, go_sem]) rfl ?_
  exact ⟨rfl, hB.out⟩

theorem unf_bad (w : World) (b off n cap : Nat) (z0 z1 z2 z3 z4 : Nat) (h : Five w b off n cap z0 z1 z2 z3 z4) (hlt : b < w.heap.size) (hn : n ≤ 1000) (hn6 : 6 ≤ n) (hk : 5 + z4 ≤ n) (S : Int) (hS : (S != (z0 : Int) * 16777216 + (z1 : Int) * 65536 + (z2 : Int) * 256 + (z3 : Int)) = true)
    (hc : ∀ q, Calls Tryz.prog 88 #[.slice (some ⟨b, off + 4, none⟩) (5 + z4 - 4) (cap - 4)] ((two0 w).drewN q) fun e w'' => e = .returned (.int .u32 S) ∧ (two0 w).drewN q = w'') :
    Calls Tryz.prog 71 #[.slice (some ⟨b, off, none⟩) n cap] w fun e w' => e = .returned (.tuple #[zrec, .bool false]) ∧ Below w.heap.size w w' := by
  obtain ⟨h0, h1, h2, h3, h4, b0, b1, b2, b3, b4, n5, nc⟩ := h
  have g0 : (two0 w).cell? ⟨b, off, none⟩ = some (.int .u8 (z0 : Int)) := by rw [(two0_below w).cell (p := ⟨b, off, none⟩) hlt]; exact h0
  have g1 : (two0 w).cell? ⟨b, off + 1, none⟩ = some (.int .u8 (z1 : Int)) := by rw [(two0_below w).cell (p := ⟨b, off + 1, none⟩) hlt]; exact h1
  have g2 : (two0 w).cell? ⟨b, off + 2, none⟩ = some (.int .u8 (z2 : Int)) := by rw [(two0_below w).cell (p := ⟨b, off + 2, none⟩) hlt]; exact h2
  have g3 : (two0 w).cell? ⟨b, off + 3, none⟩ = some (.int .u8 (z3 : Int)) := by rw [(two0_below w).cell (p := ⟨b, off + 3, none⟩) hlt]; exact h3
  have g4 : (two0 w).cell? ⟨b, off + 4, none⟩ = some (.int .u8 (z4 : Int)) := by rw [(two0_below w).cell (p := ⟨b, off + 4, none⟩) hlt]; exact h4
  have hB := Lib.hid (two0_below w)
  have HC := Lib.hid hc
  unfold two0 at g0 g1 g2 g3 g4 hB HC
  have hk1 : (z4 : Int) < 256 := by omega
  have hk0 : (0 : Int) ≤ (z4 : Int) := by omega
  have hgt : 5 + (z4 : Int) ≤ (n : Int) := by omega
  have hgt2 : 5 + (z4 : Int) ≤ (cap : Int) := by omega
  have hn5 : (5 : Int) ≤ (n : Int) := by omega
  have hc4 : ¬ cap = 4 := by omega
  have hc5 : ¬ cap = 5 := by omega
  clear hk nc n5 h0 h1 h2 h3 h4 hc
  go_enter Tryz.func71, Tryz.ntmps71
  go_wp2_with fail
  go_quiet (fail)
  go_wp2_with (go_at_call 88; refine (HC.out _).mono ?_; rintro e w' ⟨rfl, rfl⟩)
  refine bodyPost_ret (v := .tuple #[zrec, .bool false]) (by simp [zrec, results, Tryz.results71, go_sem]) rfl ?_
  exact ⟨rfl, (((hB.out.trans (below_drewN _ _ _)).setCell (Nat.le_refl _) _).setCell (Nat.le_refl _) _).setCell (Nat.le_refl _) _⟩

theorem two0_rec (w : World) : C.Rec3 (two0 w) w.heap.size 0 none 0 0 none 0 0 := by
  unfold two0
  refine ⟨?_, ?_, ?_, ?_, ?_, ?_⟩ <;> go_simp

/-- a record's three parts, written over -/
theorem rec_over {w : World} {N : Nat} {k : Int} {aN : Option Addr} {nN cN : Nat} {aT : Option Addr} {nT cT : Nat} (h : C.Rec3 w N k aN nN cN aT nT cT) (v0 v1 v2 : Value) :
    (((w.setCell ⟨N, 0, none⟩ v0).setCell ⟨N, 1, none⟩ v1).setCell ⟨N, 2, none⟩ v2).cell? ⟨N, 0, none⟩ = some v0 ∧ (((w.setCell ⟨N, 0, none⟩ v0).setCell ⟨N, 1, none⟩ v1).setCell ⟨N, 2, none⟩ v2).cell? ⟨N, 1, none⟩ = some v1 ∧
    (((w.setCell ⟨N, 0, none⟩ v0).setCell ⟨N, 1, none⟩ v1).setCell ⟨N, 2, none⟩ v2).cell? ⟨N, 2, none⟩ = some v2 := by
  obtain ⟨g1, g2, g3, g4, g5, g6⟩ := h
  refine ⟨?_, ?_, ?_⟩
  · rw [World.cell?_setCell_other _ _ _ _ (by simp), World.cell?_setCell_other _ _ _ _ (by simp)]
    exact World.cell?_setCell_same _ _ _ g1
  · rw [World.cell?_setCell_other _ _ _ _ (by simp)]
    exact World.cell?_setCell_same _ _ _ (show _ = some (Value.slice aN nN cN) by rw [World.cell?_setCell_other _ _ _ _ (by simp)]; exact g2)
  · exact World.cell?_setCell_same _ _ _ (show _ = some (Value.slice aT nT cT) by rw [World.cell?_setCell_other _ _ _ _ (by simp), World.cell?_setCell_other _ _ _ _ (by simp)]; exact g3)

/-- what Unframed tells -/
def UPost (w : World) (l : List UInt8) (e : Ending) (w' : World) : Prop :=
  Below w.heap.size w w' ∧ ((∃ r aN nN cN aT nT cT, C.M.dec l = some r ∧ C.RecOwn w' w.heap.size r aN nN cN aT nT cT ∧ e = .returned (.tuple #[.agg #[.int .i64 r.kind, .slice aN nN cN, .slice aT nT cT], .bool true])) ∨ (C.M.dec l = none ∧ e = .returned (.tuple #[zrec, .bool false])))

set_option maxHeartbeats 1000000 in
theorem unf_rec (w : World) (b off n cap : Nat) (z0 z1 z2 z3 z4 : Nat) (h : Five w b off n cap z0 z1 z2 z3 z4) (hlt : b < w.heap.size) (hn : n ≤ 1000) (hn6 : 6 ≤ n) (hk : 5 + z4 ≤ n) (l5 : List UInt8)
    (hc : ∀ q, Calls Tryz.prog 88 #[.slice (some ⟨b, off + 4, none⟩) (5 + z4 - 4) (cap - 4)] ((two0 w).drewN q) fun e w'' => e = .returned (.int .u32 ((z0 : Int) * 16777216 + (z1 : Int) * 65536 + (z2 : Int) * 256 + (z3 : Int))) ∧ (two0 w).drewN q = w'')
    (hd : ∀ q, Calls Tryz.prog 31 #[.slice (some ⟨b, off + 5, none⟩) z4 (cap - 5)] ((two0 w).drewN q) (C.DPost ((two0 w).drewN q) l5)) :
    Calls Tryz.prog 71 #[.slice (some ⟨b, off, none⟩) n cap] w (UPost w l5) := by
  obtain ⟨h0, h1, h2, h3, h4, b0, b1, b2, b3, b4, n5, nc⟩ := h
  have g0 : (two0 w).cell? ⟨b, off, none⟩ = some (.int .u8 (z0 : Int)) := by rw [(two0_below w).cell (p := ⟨b, off, none⟩) hlt]; exact h0
  have g1 : (two0 w).cell? ⟨b, off + 1, none⟩ = some (.int .u8 (z1 : Int)) := by rw [(two0_below w).cell (p := ⟨b, off + 1, none⟩) hlt]; exact h1
  have g2 : (two0 w).cell? ⟨b, off + 2, none⟩ = some (.int .u8 (z2 : Int)) := by rw [(two0_below w).cell (p := ⟨b, off + 2, none⟩) hlt]; exact h2
  have g3 : (two0 w).cell? ⟨b, off + 3, none⟩ = some (.int .u8 (z3 : Int)) := by rw [(two0_below w).cell (p := ⟨b, off + 3, none⟩) hlt]; exact h3
  have g4 : (two0 w).cell? ⟨b, off + 4, none⟩ = some (.int .u8 (z4 : Int)) := by rw [(two0_below w).cell (p := ⟨b, off + 4, none⟩) hlt]; exact h4
  have hB := Lib.hid (two0_below w)
  have hR := Lib.hid (two0_rec w)
  have hSz : Hid ((two0 w).heap.size = w.heap.size + 2) := Lib.hid (by unfold two0; simp)
  have HC := Lib.hid hc
  have HD := Lib.hid hd
  unfold two0 at g0 g1 g2 g3 g4 HC HD
  have hk1 : (z4 : Int) < 256 := by omega
  have hk0 : (0 : Int) ≤ (z4 : Int) := by omega
  have hgt : 5 + (z4 : Int) ≤ (n : Int) := by omega
  have hgt2 : 5 + (z4 : Int) ≤ (cap : Int) := by omega
  have hn5 : (5 : Int) ≤ (n : Int) := by omega
  have hc4 : ¬ cap = 4 := by omega
  have hc5 : ¬ cap = 5 := by omega
  clear hk nc n5 h0 h1 h2 h3 h4 hc hd
  go_enter Tryz.func71, Tryz.ntmps71
  go_wp2_with fail
  go_quiet (fail)
  go_wp2_with (go_at_call 88; refine (HC.out _).mono ?_; rintro e w' ⟨rfl, rfl⟩)
  refine (HD.out _).mono ?_
  rintro e w1 ⟨hb, ⟨r, v, hdc, ⟨aN, nN, cN, aT, nT, cT, rfl, ho1, ho2⟩, rfl⟩ | ⟨hdc, he⟩⟩
  · have hb2 : Below (w.heap.size + 2) (two0 w) w1 := (below_drewN _ (two0 w) nq).trans (hSz.out ▸ hb)
    have hr1 := C.rec3_below hR.out hb2 (by omega)
    have HRo : Hid (C.RecOwn w1 (w.heap.size + 2) r aN nN cN aT nT cT) := Lib.hid ⟨hSz.out ▸ ho1, hSz.out ▸ ho2⟩
    have hr2 : C.Rec3 (w1.alloc (.cells #[.int .i64 r.kind, .slice aN nN cN, .slice aT nT cT] 80)) w.heap.size 0 none 0 0 none 0 0 := C.rec3_below hr1 ((Below.refl w1.heap.size w1).alloc (Nat.le_refl _) _) (by have := hb2.size; have := hSz.out; omega)
    have Hr2 := Lib.hid hr2
    obtain ⟨r1, r2, r3, r4, r5, r6⟩ := hr2
    have HB1 : Hid (Below w.heap.size w (w1.alloc (.cells #[.int .i64 r.kind, .slice aN nN cN, .slice aT nT cT] 80))) := Lib.hid ((hB.out.trans (hb2.mono (by omega))).alloc (by have := hb2.size; have := hSz.out; omega) _)
    have HDc := Lib.hid hdc
    have HRo2 : Hid (C.RecOwn (w1.alloc (.cells #[.int .i64 r.kind, .slice aN nN cN, .slice aT nT cT] 80)) (w.heap.size + 2) r aN nN cN aT nT cT) := Lib.hid (HRo.out.below ((Below.refl w1.heap.size w1).alloc (Nat.le_refl _) _) (Nat.le_refl _))
    clear hdc ho1 ho2 hb hb2 hr1
    go_wp2_with fail
    obtain ⟨q1, q2, q3⟩ := rec_over Hr2.out (.int .i64 r.kind) (.slice aN nN cN) (.slice aT nT cT)
    refine bodyPost_ret (v := .tuple #[.agg #[.int .i64 r.kind, .slice aN nN cN, .slice aT nT cT], .bool true]) (by simp [results, Tryz.results71, go_sem, q1, q2, q3]) rfl ?_
    have hro := ((HRo2.out.set (p := ⟨w.heap.size, 0, none⟩) (.int .i64 r.kind) (by simp)).set (p := ⟨w.heap.size, 1, none⟩) (.slice aN nN cN) (by simp)).set (p := ⟨w.heap.size, 2, none⟩) (.slice aT nT cT) (by simp)
    exact ⟨((HB1.out.setCell (Nat.le_refl _) _).setCell (Nat.le_refl _) _).setCell (Nat.le_refl _) _, .inl ⟨r, aN, nN, cN, aT, nT, cT, HDc.out, ⟨C.own_mono hro.nums (by omega), C.own_mono hro.texts (by omega)⟩, rfl⟩⟩
  · unfold C.zeroRec at he
    subst he
    have hb2 : Below (w.heap.size + 2) (two0 w) w1 := (below_drewN _ (two0 w) nq).trans (hSz.out ▸ hb)
    have hr1 := C.rec3_below hR.out hb2 (by omega)
    have hr2 : C.Rec3 (w1.alloc (.cells #[.int .i64 0, .slice none 0 0, .slice none 0 0] 80)) w.heap.size 0 none 0 0 none 0 0 := C.rec3_below hr1 ((Below.refl w1.heap.size w1).alloc (Nat.le_refl _) _) (by have := hb2.size; have := hSz.out; omega)
    have Hr2 := Lib.hid hr2
    obtain ⟨r1, r2, r3, r4, r5, r6⟩ := hr2
    have HB1 : Hid (Below w.heap.size w (w1.alloc (.cells #[.int .i64 0, .slice none 0 0, .slice none 0 0] 80))) := Lib.hid ((hB.out.trans (hb2.mono (by omega))).alloc (by have := hb2.size; have := hSz.out; omega) _)
    have HDc := Lib.hid hdc
    clear hdc hb hb2 hr1
    go_wp2_with fail
    obtain ⟨q1, q2, q3⟩ := rec_over Hr2.out (.int .i64 0) (.slice none 0 0) (.slice none 0 0)
    refine bodyPost_ret (v := .tuple #[zrec, .bool false]) (by simp [zrec, results, Tryz.results71, go_sem, q1, q2, q3]) rfl ?_
    exact ⟨((HB1.out.setCell (Nat.le_refl _) _).setCell (Nat.le_refl _) _).setCell (Nat.le_refl _) _, .inr ⟨HDc.out, rfl⟩⟩
end Go.Proofs.YtpoolpckabpnfaaGreat
namespace Go.Proofs.YtpoolpckabpnfaaGreat
open Go.RowKit
set_option linter.unusedVariables false
set_option linter.unusedSimpArgs false
set_option maxRecDepth 20000

/-- what Unframed tells of any bytes -/
theorem unf_any (w : World) (b off n cap : Nat) (l : List UInt8) (h : Row w (some ⟨b, off, none⟩) n cap (u8s l)) (hn : n ≤ 1000) (hn6 : 6 ≤ n) :
    Calls Tryz.prog 71 #[.slice (some ⟨b, off, none⟩) n cap] w fun e w' => Below w.heap.size w w' ∧
      ((∃ r aN nN cN aT nT cT, M.unframe l = some r ∧ C.RecOwn w' w.heap.size r aN nN cN aT nT cT ∧ e = .returned (.tuple #[.agg #[.int .i64 r.kind, .slice aN nN cN, .slice aT nT cT], .bool true])) ∨ (M.unframe l = none ∧ e = .returned (.tuple #[zrec, .bool false]))) := by
  have hl : l.length = n := by have := h.1; rwa [u8s_length] at this
  have hlt : b < w.heap.size := by
    obtain ⟨_, _, _, h0 | ⟨b', off', e, hlt, _⟩⟩ := h
    · have : l = [] := by simpa [u8s] using h0
      subst this; simp at hl; omega
    · injection e with e
      injection e with e1 _ _
      subst e1
      exact hlt
  match l, h, hl with
  | c0 :: c1 :: c2 :: c3 :: k :: r, h, hl =>
    obtain ⟨h5, hnr⟩ := five_of h
    by_cases hs : r.length < k.toNat
    · refine (unf_short w b off n cap _ _ _ _ _ h5 hlt hn (by omega)).mono ?_
      rintro e w' ⟨rfl, hb⟩
      exact ⟨hb, .inr ⟨by simp only [M.unframe]; rw [if_neg (by omega)], rfl⟩⟩
    · have hk : 5 + k.toNat ≤ n := by omega
      have hw0 := two0_below w
      have h' : Row (two0 w) (some ⟨b, off, none⟩) n cap (u8s (c0 :: c1 :: c2 :: c3 :: k :: r)) := row_below h hw0 (Nat.le_refl _)
      have r4 : Row (two0 w) (some ⟨b, off + 4, none⟩) (5 + k.toNat - 4) (cap - 4) (u8s (k :: r.take k.toNat)) := by
        have := row_mid h' (show 4 ≤ 5 + k.toNat by omega) hk
        have e : ((u8s (c0 :: c1 :: c2 :: c3 :: k :: r)).take (5 + k.toNat)).drop 4 = u8s (k :: r.take k.toNat) := by
          rw [show 5 + k.toNat = k.toNat + 1 + 1 + 1 + 1 + 1 by omega]
          simp [u8s]
        rw [e] at this
        exact this
      have r5 : Row (two0 w) (some ⟨b, off + 5, none⟩) k.toNat (cap - 5) (u8s (r.take k.toNat)) := by
        have := row_mid h' (show 5 ≤ 5 + k.toNat by omega) hk
        have e : ((u8s (c0 :: c1 :: c2 :: c3 :: k :: r)).take (5 + k.toNat)).drop 5 = u8s (r.take k.toNat) := by
          rw [show 5 + k.toNat = k.toNat + 1 + 1 + 1 + 1 + 1 by omega]
          simp [u8s]
        rw [e, show 5 + k.toNat - 5 = k.toNat by omega] at this
        exact this
      have hz : ((c0.toNat : Int) * 16777216 + (c1.toNat : Int) * 65536 + (c2.toNat : Int) * 256 + (c3.toNat : Int)) = ((M.num4 c0 c1 c2 c3 : Nat) : Int) := by unfold M.num4; omega
      have hklt := k.toNat_lt
      have hsum : ∀ q, Calls Tryz.prog 88 #[.slice (some ⟨b, off + 4, none⟩) (5 + k.toNat - 4) (cap - 4)] ((two0 w).drewN q) fun e w'' => e = .returned (.int .u32 ((M.sumB (k :: r.take k.toNat)).toNat : Int)) ∧ (two0 w).drewN q = w'' := fun q =>
        K.refsum_any _ _ _ _ _ (k_row (row_drewN r4 q) (by omega))
      by_cases he : (M.sumB (k :: r.take k.toNat)).toNat = M.num4 c0 c1 c2 c3
      · have e : M.unframe (c0 :: c1 :: c2 :: c3 :: k :: r) = C.M.dec (r.take k.toNat) := by
          simp only [M.unframe]
          rw [if_pos (by omega), if_pos he]
        refine (unf_rec w b off n cap _ _ _ _ _ h5 hlt hn hn6 hk (r.take k.toNat) (fun q => ?_) (fun q => C.refdecode_any _ _ _ _ _ (c_row (row_drewN r5 q)) (by omega))).mono ?_
        · rw [hz, ← he]; exact hsum q
        · rintro e1 w1 ⟨hb, ⟨rc, aN, nN, cN, aT, nT, cT, hd, ho, rfl⟩ | ⟨hd, rfl⟩⟩
          · exact ⟨hb, .inl ⟨rc, aN, nN, cN, aT, nT, cT, by rw [e]; exact hd, ho, rfl⟩⟩
          · exact ⟨hb, .inr ⟨by rw [e]; exact hd, rfl⟩⟩
      · have e : M.unframe (c0 :: c1 :: c2 :: c3 :: k :: r) = none := by
          simp only [M.unframe]
          rw [if_pos (by omega), if_neg he]
        refine (unf_bad w b off n cap _ _ _ _ _ h5 hlt hn hn6 hk _ ?_ hsum).mono ?_
        · rw [hz]; simp; omega
        · rintro e1 w1 ⟨rfl, hb⟩
          exact ⟨hb, .inr ⟨e, rfl⟩⟩
  | [], _, hl => simp at hl; omega
  | [_], _, hl => simp at hl; omega
  | [_, _], _, hl => simp at hl; omega
  | [_, _, _], _, hl => simp at hl; omega
  | [_, _, _, _], _, hl => simp at hl; omega

set_option maxHeartbeats 2000000 in
theorem refread_any (w : World) (b off n cap : Nat) (l : List UInt8) (h : Row w (some ⟨b, off, none⟩) n cap (u8s l)) (hn : n ≤ 1000) (hn6 : 6 ≤ n) :
    Calls Tryz.prog 52 #[.slice (some ⟨b, off, none⟩) n cap] w fun e w' => e = .returned (.tuple #[.int .i64 (M.rdP l).1, .string (M.rdP l).2]) ∧ Below w.heap.size w w' := by
  have HU := Lib.hid (unf_any w b off n cap l h hn hn6)
  have hp : M.rdP l = ((M.unframe l).bind M.asSlot).getD (0, ByteArray.empty) := rfl
  have HP := Lib.hid hp
  generalize M.rdP l = p at *
  clear hp h
  go_enter Tryz.func52, Tryz.ntmps52
  go_wp2_with fail
  refine HU.out.mono ?_
  rintro e w1 ⟨hb, ⟨r, aN, nN, cN, aT, nT, cT, hu, hro, rfl⟩ | ⟨hu, he⟩⟩
  · have Hb := Lib.hid hb
    have hr := recout_of hro
    have HP2 : Hid (p = (M.asSlot r).getD (0, ByteArray.empty)) := Lib.hid (by rw [HP.out, hu]; rfl)
    rw [← HP2.out] at hr
    generalize r.kind = kd at *
    clear hb hu hro
    rcases hr with ⟨h1, rfl⟩ | ⟨h1, h2, rfl⟩ | ⟨h1, h2, h3, rfl⟩ | ⟨g, t, bN, bT, h1, h2, h3, rfl, rfl, l1, l2, k1, k2, hm⟩
    · have e1 : (kd != 1) = true := by simpa using h1
      clear h1
      go_wp2_with fail
      go_ret2
      exact ⟨rfl, Hb.out.alloc Hb.out.size _⟩
    · subst h1
      have e1 : ((nN : Int) != 1) = true := by simp; omega
      clear h2
      go_wp2_with fail
      go_ret2
      exact ⟨rfl, Hb.out.alloc Hb.out.size _⟩
    · subst h1 h2
      have e1 : ((nT : Int) != 1) = true := by simp; omega
      clear h3
      go_wp2_with fail
      go_ret2
      exact ⟨rfl, Hb.out.alloc Hb.out.size _⟩
    · subst h1 h2 h3
      have m1 : (w1.alloc (.cells #[.int .i64 1, .slice (some ⟨bN, 0, none⟩) 1 cN, .slice (some ⟨bT, 0, none⟩) 1 cT] 80)).cell? ⟨bN, 0, none⟩ = some (.int .i64 g) := by
        rw [World.cell?_alloc_lt _ _ _ l1]; exact k1
      have m2 : (w1.alloc (.cells #[.int .i64 1, .slice (some ⟨bN, 0, none⟩) 1 cN, .slice (some ⟨bT, 0, none⟩) 1 cT] 80)).cell? ⟨bT, 0, none⟩ = some (.string t) := by
        rw [World.cell?_alloc_lt _ _ _ l2]; exact k2
      clear k1 k2 l1 l2
      rcases hm with ⟨⟨y1, y2, y3⟩, rfl⟩ | ⟨hm, rfl⟩
      · have y3' : (t.size : Int) ≤ 100 := by omega
        clear y3
        go_wp2_with fail
        go_quiet (fail)
        go_wp2_with fail
        go_ret2
        exact ⟨rfl, (Hb.out.alloc Hb.out.size _).trans (below_drewN _ _ _)⟩
      · by_cases y3 : t.size ≤ 100
        · have y3' : (t.size : Int) ≤ 100 := by omega
          by_cases y1 : g < 1
          · clear hm y3
            go_wp2_with fail
            go_ret2
            exact ⟨rfl, Hb.out.alloc Hb.out.size _⟩
          · have y2 : 4611686018427387904 < g := by
              have : ¬ g ≤ 4611686018427387904 := fun h => hm ⟨by omega, h, y3⟩
              omega
            clear hm y3
            go_wp2_with fail
            go_ret2
            exact ⟨rfl, Hb.out.alloc Hb.out.size _⟩
        · have y3' : (100 : Int) < (t.size : Int) := by omega
          clear hm y3
          go_wp2_with fail
          go_ret2
          exact ⟨rfl, Hb.out.alloc Hb.out.size _⟩
  · have HP2 : p = (0, ByteArray.empty) := by rw [HP.out, hu]; rfl
    have Hb := Lib.hid hb
    unfold zrec at he
    subst he HP2
    clear hb hu
    go_wp2_with fail
    go_ret2
    exact ⟨rfl, Hb.out.alloc Hb.out.size _⟩
end Go.Proofs.YtpoolpckabpnfaaGreat
namespace Go.Proofs.YtpoolpckabpnfaaGreat
open Go.RowKit
set_option linter.unusedVariables false
set_option linter.unusedSimpArgs false
set_option maxRecDepth 20000

variable {dB sB mB rB LB n : Nat} {d : M.Dv}

theorem rcell_new (w : World) (rB a b : Nat) : RCell (w.alloc (.cells #[.pointer (some ⟨rB, 0, none⟩), .int .i64 (a : Int), .int .i64 (b : Int), .int .i64 0, .int .i64 0, .string ⟨#[]⟩] 84)) w.heap.size rB a b 0 M.none0 where
  p0 := by rw [World.cell?_alloc_mark]; rfl
  p1 := by rw [World.cell?_alloc_mark]; rfl
  p2 := by rw [World.cell?_alloc_mark]; rfl
  p3 := by rw [World.cell?_alloc_mark]; rfl
  p4 := by rw [World.cell?_alloc_mark]; rfl
  p5 := by rw [World.cell?_alloc_mark]; rfl
  fz := fun o => World.frozen?_alloc_at _ _ _ _ rfl

theorem M.rdP_some {l : List UInt8} {g : Int} {t : ByteArray} (h : M.rdS l = some (g, t)) : M.rdP l = (g, t) := by unfold M.rdP; rw [h]; rfl
theorem M.rdP_none {l : List UInt8} (h : M.rdS l = none) : M.rdP l = (0, ByteArray.empty) := by unfold M.rdP; rw [h]; rfl
theorem M.rdP_range (l : List UInt8) : 0 ≤ (M.rdP l).1 ∧ (M.rdP l).1 ≤ 4611686018427387904 := by
  cases h : M.rdS l with
  | none => rw [M.rdP_none h]; exact ⟨by omega, by omega⟩
  | some x =>
    obtain ⟨g, t⟩ := x
    rw [M.rdP_some h]
    have := (M.slot_rdS h).1
    exact ⟨by have := this.1; show 0 ≤ g; omega, this.2.1⟩
/-- what is found, told by what the two sectors say -/
theorem M.found_is (l m : List UInt8) : M.found (M.rdS l) (M.rdS m) = if (M.rdP l).1 < (M.rdP m).1 then ⟨0, (M.rdP m).1, (M.rdP m).2⟩ else if 0 < (M.rdP l).1 then ⟨1, (M.rdP l).1, (M.rdP l).2⟩ else M.none0 := by
  rcases M.found_ways l m with ⟨h1, h2, h3⟩ | ⟨g, t, h1, h2, h3, h4⟩ | ⟨g, t, h1, h2, h3, h4⟩ | ⟨g, t, g', t', h1, h2, h3, h4, h5, h6⟩ | ⟨g, t, g', t', h1, h2, h3, h4, h5, h6⟩
  · rw [h3, M.rdP_none h1, M.rdP_none h2]; rfl
  · rw [h4, M.rdP_none h1, M.rdP_some h2]
    have := h3.1
    rw [if_pos (show (0 : Int) < g by omega)]
  · rw [h4, M.rdP_some h1, M.rdP_none h2]
    have := h3.1
    rw [if_neg (show ¬ g < (0 : Int) by omega), if_pos (show (0 : Int) < g by omega)]
  · rw [h6, M.rdP_some h1, M.rdP_some h2, if_pos h5]
  · rw [h6, M.rdP_some h1, M.rdP_some h2, if_neg h5]
    have := h3.1
    rw [if_pos (show (0 : Int) < g by omega)]

theorem row_at {w : World} {a : Option Addr} {c : Nat} {l : List UInt8} (h : Row w a 144 c (u8s l)) : ∃ b off, a = some ⟨b, off, none⟩ := by
  obtain ⟨h1, h2, h3, h4⟩ := h
  rcases h4 with h4 | ⟨b, off, ha, _⟩
  · rw [h4] at h1; simp at h1
  · exact ⟨b, off, ha⟩

set_option maxHeartbeats 4000000 in
theorem ropen_yes (w : World) (h : RefAt w rB LB n d) (hdead : d.dead = false) (a b : Nat) (hab : a ≠ b) (ha : a < n) (hb : b < n) :
    Calls Tryz.prog 30 #[.pointer (some ⟨rB, 0, none⟩), .int .i64 (a : Int), .int .i64 (b : Int)] w fun e w' => ∃ kB z, e = .returned (.tuple #[.pointer (some ⟨kB, 0, none⟩), .int .i64 0]) ∧ w.heap.size ≤ kB ∧
      ZO z (M.found (M.rdS (M.seen d a)) (M.rdS (M.seen d b))).o ∧ RCell w' kB rB a b z (M.found (M.rdS (M.seen d a)) (M.rdS (M.seen d b))) ∧ Below w.heap.size w w' := by
  have HD := Lib.hid h
  have hne : ((a : Int) == (b : Int)) = false := by rw [beq_eq_false_iff_ne]; omega
  have HR : Hid (∀ i, i < n → M.reach n d (i : Int) = 0) := Lib.hid fun i hi => by
    unfold M.reach; rw [hdead, if_neg (by simp), if_neg (by omega)]
  have HL := Lib.hid (And.intro ha hb)
  have HC := Lib.hid (rcell_new w rB a b)
  have hsec := h.sec
  have hde := h.dead
  rw [hdead] at hde
  have ha0 : ¬ (a : Int) < 0 := by omega
  have hb0 : ¬ (b : Int) < 0 := by omega
  have han : ¬ (n : Int) ≤ (a : Int) := by omega
  have hbn : ¬ (n : Int) ≤ (b : Int) := by omega
  have HF := Lib.hid (M.found_is (M.seen d a) (M.seen d b))
  have HP1 := Lib.hid (M.rdP_range (M.seen d a))
  have HP2 := Lib.hid (M.rdP_range (M.seen d b))
  clear h hdead hab ha hb
  have HRl : Hid (rB < w.heap.size ∧ LB < w.heap.size) := Lib.hid ⟨HD.out.ltR, HD.out.lt⟩
  have HSn : Hid (∀ i, (M.seen d i).length = 144) := Lib.hid fun i => M.sure_len HD.out.wf i
  have HRa : Hid (Calls Tryz.prog 26 #[.pointer (some ⟨rB, 0, none⟩), .int .i64 (a : Int)] (w.alloc (.cells #[.pointer (some ⟨rB, 0, none⟩), .int .i64 (a : Int), .int .i64 (b : Int), .int .i64 0, .int .i64 0, .string ⟨#[]⟩] 84)) fun e w' => ∃ bR oR cR, e = .returned (.tuple #[.slice (some ⟨bR, oR, none⟩) 144 cR, .int .i64 0]) ∧ Row w' (some ⟨bR, oR, none⟩) 144 cR (u8s (M.seen d a)) ∧ Below w.heap.size w w' ∧ RCell w' w.heap.size rB a b 0 M.none0) := Lib.hid ((rread_yes _ (HD.out.alloc _) a (HR.out a HL.out.1)).mono (by
    rintro e w1 ⟨aR, cR, rfl, hrow, hb1⟩
    obtain ⟨bR, oR, rfl⟩ := row_at hrow
    exact ⟨bR, oR, cR, rfl, hrow, ((Below.refl _ w).alloc (Nat.le_refl _) _).trans (hb1.mono (by simp)), HC.out.below hb1 HC.out.lt⟩))
  have HRb : Hid (∀ w1, Below w.heap.size w w1 → Calls Tryz.prog 26 #[.pointer (some ⟨rB, 0, none⟩), .int .i64 (b : Int)] w1 fun e w' => ∃ bR oR cR, e = .returned (.tuple #[.slice (some ⟨bR, oR, none⟩) 144 cR, .int .i64 0]) ∧ Row w' (some ⟨bR, oR, none⟩) 144 cR (u8s (M.seen d b)) ∧ Below w1.heap.size w1 w') := Lib.hid fun w1 hb1 => (rread_yes w1 (HD.out.below hb1 HRl.out.1 HRl.out.2) b (HR.out b HL.out.2)).mono (by
    rintro e w1 ⟨aR, cR, rfl, hrow, hb1⟩
    obtain ⟨bR, oR, rfl⟩ := row_at hrow
    exact ⟨bR, oR, cR, rfl, hrow, hb1⟩)
  clear HC
  go_enter Tryz.func30, Tryz.ntmps30
  go_wp2_with (first
    | (go_at_call 26; with_reducible refine HRa.out.mono ?_; rintro e w1 ⟨bR, oR, cR, rfl, hrow, hb1, hc1⟩
       have HB1 := Lib.hid hb1
       have HC1 := Lib.hid hc1
       have HRow1 := Lib.hid hrow
       clear hrow hb1 hc1)
    | (go_at_call 26; with_reducible refine (HRb.out w1 HB1.out).mono ?_; rintro e w2 ⟨bS, oS, cS, rfl, hrow, hb2⟩
       have HB2 : Hid (Below w.heap.size w w2) := Lib.hid (cbelow_up HB1.out hb2 HB1.out.size)
       have HC2 := Lib.hid (HC1.out.below hb2 HC1.out.lt)
       have HRow2 := Lib.hid (row_but HRow1.out (But.of_below hb2) (.inr (by simp)))
       have HRow2b := Lib.hid hrow
       have HX2 := Lib.hid (refread_any w2 bR oR 144 cR _ HRow2.out (by omega) (by omega))
       clear hrow hb2)
    | (go_at_call 52; with_reducible refine HX2.out.mono ?_; rintro e w3 ⟨rfl, hb3⟩
       have HB3 : Hid (Below w.heap.size w w3) := Lib.hid (cbelow_up HB2.out hb3 HB2.out.size)
       have HC3 := Lib.hid (HC2.out.below hb3 HC2.out.lt)
       have HRow3b := Lib.hid (row_but HRow2b.out (But.of_below hb3) (.inr (by simp)))
       have HX3 := Lib.hid (refread_any w3 bS oS 144 cS _ HRow3b.out (by omega) (by omega))
       clear hb3))
  refine HX3.out.mono ?_
  rintro e w4 ⟨rfl, hb4⟩
  have HB4 : Hid (Below w.heap.size w w4) := Lib.hid (cbelow_up HB3.out hb4 HB3.out.size)
  have HC4 := Lib.hid (HC3.out.below hb4 HC3.out.lt)
  clear hb4 HX2 HX3 HRa HRb HRow1 HRow2 HRow2b HRow3b HB1 HB2 HB3 HC1 HC2 HC3 HR hsec hde
  generalize (M.rdP (M.seen d a)).1 = g at *
  generalize (M.rdP (M.seen d a)).2 = s at *
  generalize (M.rdP (M.seen d b)).1 = g' at *
  generalize (M.rdP (M.seen d b)).2 = s' at *
  have hk3 : w4.cell? ⟨w.heap.size, 3, none⟩ = some (.int .i64 0) := HC4.out.p3
  have hk4 : w4.cell? ⟨w.heap.size, 4, none⟩ = some (.int .i64 0) := HC4.out.p4
  have hk5 : w4.cell? ⟨w.heap.size, 5, none⟩ = some (.string ⟨#[]⟩) := HC4.out.p5
  have f3 := HC4.out.fz 3
  have f4 := HC4.out.fz 4
  have f5 := HC4.out.fz 5
  have hgr := HP1.out
  have hgr2 := HP2.out
  by_cases hg : 0 < g
  · by_cases hgg : g < g'
    · have Hc : Hid (M.found (M.rdS (M.seen d a)) (M.rdS (M.seen d b)) = ⟨0, g', s'⟩) := Lib.hid (by rw [HF.out, if_pos hgg])
      go_wp2_with fail
      go_ret2
      exact ⟨w.heap.size, 2, rfl, Nat.le_refl _, by rw [Hc.out]; exact .inr ⟨.inr rfl, rfl⟩, by rw [Hc.out]; exact (HC4.out.set 1 1 g s).set 2 0 g' s', ((((((HB4.out.setCell (Nat.le_refl _) _).setCell (Nat.le_refl _) _).setCell (Nat.le_refl _) _).setCell (Nat.le_refl _) _).setCell (Nat.le_refl _) _).setCell (Nat.le_refl _) _)⟩
    · have Hc : Hid (M.found (M.rdS (M.seen d a)) (M.rdS (M.seen d b)) = ⟨1, g, s⟩) := Lib.hid (by rw [HF.out, if_neg hgg, if_pos hg])
      go_wp2_with fail
      go_ret2
      exact ⟨w.heap.size, 1, rfl, Nat.le_refl _, by rw [Hc.out]; exact .inl ⟨rfl, rfl⟩, by rw [Hc.out]; exact HC4.out.set 1 1 g s, (((HB4.out.setCell (Nat.le_refl _) _).setCell (Nat.le_refl _) _).setCell (Nat.le_refl _) _)⟩
  · by_cases hgg : g < g'
    · have Hc : Hid (M.found (M.rdS (M.seen d a)) (M.rdS (M.seen d b)) = ⟨0, g', s'⟩) := Lib.hid (by rw [HF.out, if_pos hgg])
      go_wp2_with fail
      go_ret2
      exact ⟨w.heap.size, 2, rfl, Nat.le_refl _, by rw [Hc.out]; exact .inr ⟨.inr rfl, rfl⟩, by rw [Hc.out]; exact HC4.out.set 2 0 g' s', (((HB4.out.setCell (Nat.le_refl _) _).setCell (Nat.le_refl _) _).setCell (Nat.le_refl _) _)⟩
    · have Hc : Hid (M.found (M.rdS (M.seen d a)) (M.rdS (M.seen d b)) = M.none0) := Lib.hid (by rw [HF.out, if_neg hgg, if_neg hg])
      go_wp2_with fail
      go_ret2
      exact ⟨w.heap.size, 0, rfl, Nat.le_refl _, by rw [Hc.out]; exact .inr ⟨.inl rfl, rfl⟩, by rw [Hc.out]; exact HC4.out, HB4.out⟩

/-- which numbers of sectors are no two -/
def Bad (n : Nat) (x y : Int) : Prop := x = y ∨ x < 0 ∨ y < 0 ∨ (n : Int) ≤ x ∨ (n : Int) ≤ y

theorem has_any (w : World) (h : DevAt w dB sB mB n d) (x : Int) :
    Calls Tryz.prog 50 #[.pointer (some ⟨dB, 0, none⟩), .int .i64 x] w fun e w' => e = .returned (.bool (decide (0 ≤ x ∧ x < (n : Int)))) ∧ w = w' := by
  have HS := Lib.hid (sectors_any w h)
  by_cases h0 : 0 ≤ x
  · by_cases h1 : x < (n : Int)
    · rw [decide_eq_true (show 0 ≤ x ∧ x < (n : Int) from ⟨h0, h1⟩)]
      clear h
      go_enter Tryz.func50, Tryz.ntmps50
      go_wp2_with (go_at_call 68; with_reducible refine HS.out.mono ?_; rintro e w' ⟨rfl, rfl⟩)
      go_ret
      exact ⟨rfl, rfl⟩
    · rw [decide_eq_false (show ¬ (0 ≤ x ∧ x < (n : Int)) from fun h => h1 h.2)]
      clear h
      go_enter Tryz.func50, Tryz.ntmps50
      go_wp2_with (go_at_call 68; with_reducible refine HS.out.mono ?_; rintro e w' ⟨rfl, rfl⟩)
      go_ret
      exact ⟨congrArg (fun b => Ending.returned (.bool b)) (decide_eq_false (by omega)), rfl⟩
  · rw [decide_eq_false (show ¬ (0 ≤ x ∧ x < (n : Int)) from fun h => h0 h.1)]
    clear h
    go_enter Tryz.func50, Tryz.ntmps50
    go_wp2_with (go_at_call 68; with_reducible refine HS.out.mono ?_; rintro e w' ⟨rfl, rfl⟩)
    go_ret
    exact ⟨rfl, rfl⟩

theorem copen_bad (w : World) (h : DevAt w dB sB mB n d) (x y : Int) (hb : Bad n x y) :
    Calls Tryz.prog 28 #[.pointer (some ⟨dB, 0, none⟩), .int .i64 x, .int .i64 y] w fun e w' => e = .returned (.tuple #[.pointer none, .int .i64 1]) ∧ w = w' := by
  by_cases he : x = y
  · subst he; exact open_same w _ x
  · have hne : (x == y) = false := by rw [beq_eq_false_iff_ne]; exact he
    have HX := Lib.hid (has_any w h x)
    have HY := Lib.hid (has_any w h y)
    by_cases hx : 0 ≤ x ∧ x < (n : Int)
    · have hy : ¬ (0 ≤ y ∧ y < (n : Int)) := by unfold Bad at hb; omega
      rw [decide_eq_true hx] at HX
      rw [decide_eq_false hy] at HY
      clear h hb he hx hy
      go_enter Tryz.func28, Tryz.ntmps28
      go_wp2_with (go_at_call 50; first | (with_reducible refine HX.out.mono ?_; rintro e w' ⟨rfl, rfl⟩) | (with_reducible refine HY.out.mono ?_; rintro e w' ⟨rfl, rfl⟩))
      go_ret2
      exact ⟨rfl, rfl⟩
    · rw [decide_eq_false hx] at HX
      clear h hb he hx HY
      go_enter Tryz.func28, Tryz.ntmps28
      go_wp2_with (go_at_call 50; (with_reducible refine HX.out.mono ?_); rintro e w' ⟨rfl, rfl⟩)
      go_ret2
      exact ⟨rfl, rfl⟩

theorem ropen_bad (w : World) (h : RefAt w rB LB n d) (x y : Int) (hb : Bad n x y) :
    Calls Tryz.prog 30 #[.pointer (some ⟨rB, 0, none⟩), .int .i64 x, .int .i64 y] w fun e w' => e = .returned (.tuple #[.pointer none, .int .i64 1]) ∧ w = w' := by
  have hsec := h.sec
  have key : x = y ∨ (¬ x = y ∧ x < 0) ∨ (¬ x = y ∧ ¬ x < 0 ∧ y < 0) ∨ (¬ x = y ∧ ¬ x < 0 ∧ ¬ y < 0 ∧ (n : Int) ≤ x) ∨ (¬ x = y ∧ ¬ x < 0 ∧ ¬ y < 0 ∧ ¬ (n : Int) ≤ x ∧ (n : Int) ≤ y) := by unfold Bad at hb; omega
  clear h hb
  rcases key with h1 | ⟨h1, h2⟩ | ⟨h1, h2, h3⟩ | ⟨h1, h2, h3, h4⟩ | ⟨h1, h2, h3, h4, h5⟩
  · subst h1
    go_enter Tryz.func30, Tryz.ntmps30
    go_wp2_with fail
    go_ret2
    exact ⟨rfl, rfl⟩
  all_goals
    have hne : (x == y) = false := by rw [beq_eq_false_iff_ne]; exact h1
    clear h1
    go_enter Tryz.func30, Tryz.ntmps30
    go_wp2_with fail
    go_ret2
    exact ⟨rfl, rfl⟩
end Go.Proofs.YtpoolpckabpnfaaGreat
