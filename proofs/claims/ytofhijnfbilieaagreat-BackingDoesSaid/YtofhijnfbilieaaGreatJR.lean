/-
  The document's own sum: what the reference functions answer.
  The document's own slot: what the reference functions answer.
  What a sector says as a slot, by the document's own functions.
  What a sector says as a slot, by the document's own function Read; and what 'clash' tells.
-/
import Derived.Test.YtofhijnfbilieaaGreatJE
import Derived.Test.YtofhijnfbilieaaGreatJCR
namespace Go.Proofs.YtofhijnfbilieaaGreat.K
open Go.RowKit
set_option linter.unusedVariables false
set_option linter.unusedSimpArgs false
set_option maxRecDepth 20000

theorem odd_iff (x : BitVec 32) : x.toNat % 2 = 1 ↔ x &&& 1#32 = 1#32 := by
  constructor
  · intro h
    apply BitVec.eq_of_toNat_eq
    rw [BitVec.toNat_and]
    show x.toNat &&& 1 = 1
    rw [Nat.and_one_is_mod]; exact h
  · intro h
    have := congrArg BitVec.toNat h
    rw [BitVec.toNat_and] at this
    have h2 : x.toNat &&& 1 = 1 := this
    rw [Nat.and_one_is_mod] at h2; exact h2

theorem half_odd {x : BitVec 32} (h : x.toNat % 2 = 1) : bits .xor .u32 ((x.toNat : Int) / 2) 2197175160 = ((M.half x).toNat : Int) := by
  rw [div_two, xor_u32, ofInt_toNat]
  unfold M.half; rw [if_pos ((odd_iff x).1 h)]; rfl
theorem half_even {x : BitVec 32} (h : ¬ x.toNat % 2 = 1) : (x.toNat : Int) / 2 = ((M.half x).toNat : Int) := by
  rw [div_two]
  unfold M.half; rw [if_neg (fun g => h ((odd_iff x).2 g))]

set_option maxHeartbeats 400000 in
theorem on_any (x : BitVec 32) (c : Int) (hc : 0 ≤ c ∧ c < 256) (w : World) :
    Calls Tryz.prog 113 #[.int .u32 (x.toNat : Int), .int .u8 c] w fun e w' => e = .returned (.int .u32 ((M.step x c).toNat : Int)) ∧ w = w' := by
  obtain ⟨hc1, hc2⟩ := hc
  go_enter Tryz.func113, Tryz.ntmps113
  go_wp2_with fail
  go_loop [0, 5] (fun r i => ∃ j : Nat, j ≤ 8 ∧ i = .int .i64 j ∧ r = .int .u32 ((M.iter j (x ^^^ BitVec.ofInt 32 c)).toNat : Int)) (fun _ i => 8 - (Go.RowKit.intOf i).toNat)
  case atStart => exact ⟨0, by omega, rfl, by rw [xor_u32, ofInt_toNat]; rfl⟩
  case round =>
    obtain ⟨j, hj, rfl, rfl⟩ := hrel
    by_cases hj8 : j < 8
    · have hsu := iter_succ j (x ^^^ BitVec.ofInt 32 c)
      have hjI : (j : Int) < 8 := by omega
      generalize M.iter j (x ^^^ BitVec.ofInt 32 c) = q at *
      have Hsu := Lib.hid hsu
      clear hsu
      by_cases ho : q.toNat % 2 = 1
      · have e1 : (((q.toNat : Int) % 2) == 1) = true := by rw [beq_iff_eq]; omega
        have Hh := Lib.hid (half_odd ho)
        clear ho
        go_wp2_with fail
        go_round
        case rel => exact ⟨j + 1, by omega, by go_num, by rw [Hsu.out, ← Hh.out]⟩
        case measure => simp [Go.RowKit.intOf]; omega
      · have e1 : (((q.toNat : Int) % 2) == 1) = false := by rw [beq_eq_false_iff_ne]; omega
        have Hh := Lib.hid (half_even ho)
        clear ho
        go_wp2_with fail
        go_round
        case rel => exact ⟨j + 1, by omega, by go_num, by rw [Hsu.out, ← Hh.out]⟩
        case measure => simp [Go.RowKit.intOf]; omega
    · obtain rfl : j = 8 := by omega
      go_wp2_with fail
      go_ret
      exact ⟨rfl, rfl⟩

theorem not_sub (x : BitVec 32) : (4294967295 : Int) - (x.toNat : Int) = ((~~~x).toNat : Int) := by
  have := x.isLt
  rw [BitVec.toNat_not]
  omega

set_option maxHeartbeats 400000 in
theorem refmore_any (x : BitVec 32) (a : Option Addr) (len cap : Nat) (l : List Int) (w : World) (h : Row w a len l) :
    Calls Tryz.prog 99 #[.int .u32 (x.toNat : Int), .slice a len cap] w fun e w' => e = .returned (.int .u32 ((M.more x l).toNat : Int)) ∧ w = w' := by
  have hb : x.toNat < 4294967296 := x.isLt
  obtain ⟨hl, hm, hr, hc⟩ := h
  subst hl
  go_enter Tryz.func99, Tryz.ntmps99
  go_wp2_with fail
  go_loop [5, 6] (fun s i => ∃ k : Nat, k ≤ l.length ∧ i = .int .i64 k ∧ s = .int .u32 ((M.run (~~~x) (l.take k)).toNat : Int)) (fun _ i => l.length - (Go.RowKit.intOf i).toNat)
  case atStart => exact ⟨0, Nat.zero_le _, rfl, by first | rfl | (rw [not_sub]; rfl)⟩
  case round =>
    obtain ⟨k, hk, rfl, rfl⟩ := hrel
    by_cases hlt : k < l.length
    · rcases hc with rfl | ⟨b, off, rfl, hc⟩
      · simp at hlt
      have hcell := hc k hlt
      have hrb := hr (l.getD k 0) (by rw [List.getD_eq_getElem?_getD]; simp [hlt])
      have hsn := run_snoc (~~~x) l k hlt
      have Hsn := Lib.hid hsn
      have hltI : (k : Int) < (l.length : Int) := by omega
      clear hsn hc hr
      generalize hcv : l.getD k 0 = c at *
      have Hcv := Lib.hid hcv
      clear hcv
      generalize hsv : M.run (~~~x) (l.take k) = s at *
      have Hsv := Lib.hid hsv
      have HO := Lib.hid (on_any s c hrb w)
      clear hsv hrb
      go_wp2_with (go_at_call 113; refine HO.out.mono ?_; rintro e w' ⟨rfl, rfl⟩)
      go_round
      case rel => exact ⟨k + 1, by omega, by go_num, by rw [Hsn.out]⟩
      case measure => simp [Go.RowKit.intOf]; omega
    · obtain rfl : k = l.length := by omega
      have hs4 := (M.run (~~~x) l).isLt
      have hend : (4294967295 : Int) - ((M.run (~~~x) l).toNat : Int) = ((M.more x l).toNat : Int) := not_sub _
      have Hend := Lib.hid hend
      have hge : ¬ ((l.length : Int) < (l.length : Int)) := by omega
      clear hend hr hc
      try rw [List.take_length]
      go_wp2_with fail
      go_ret
      exact ⟨by first | exact ret_u32 Hend.out | (rw [← Hend.out]; rfl), rfl⟩

theorem refsum_any (a : Option Addr) (len cap : Nat) (l : List Int) (w : World) (h : Row w a len l) :
    Calls Tryz.prog 87 #[.slice a len cap] w fun e w' => e = .returned (.int .u32 ((M.more 0#32 l).toNat : Int)) ∧ w = w' := by
  have H := Lib.hid (refmore_any 0#32 a len cap l w h)
  clear h
  go_enter Tryz.func87, Tryz.ntmps87
  go_wp2_with (go_at_call 99; refine H.out.mono ?_; rintro e w' ⟨rfl, rfl⟩)
  go_ret
  exact ⟨rfl, rfl⟩
end Go.Proofs.YtofhijnfbilieaaGreat.K
namespace Go.Proofs.YtofhijnfbilieaaGreat
open Go.RowKit
set_option linter.unusedVariables false
set_option linter.unusedSimpArgs false
set_option maxRecDepth 20000

theorem framed_len (r : List UInt8) : (M.framed r).length = 4 + (1 + r.length) := by
  simp [M.framed, M.word, M.summed]; omega

set_option maxHeartbeats 1000000 in
theorem refframed_any (w : World) (a : Option Addr) (n cap : Nat) (r : List UInt8) (h : Row w a n cap (u8s r)) (hn : n ≤ 200) :
    Calls Tryz.prog 78 #[.slice a n cap] w fun e w' => ∃ a' cap', e = .returned (.slice a' (M.framed r).length cap') ∧ OwnB w' w.heap.size a' (M.framed r).length cap' (M.framed r) ∧ Below w.heap.size w w' := by
  have hl : r.length = n := by have := h.1; rwa [u8s_length] at this
  subst hl
  have HR := Lib.hid h
  have HS := Lib.hid hn
  have hlenI : (r.length : Int) ≤ 200 := by omega
  have HB : Hid ((r.length : Int) = (((UInt8.ofNat r.length).toNat : Nat) : Int)) := Lib.hid (by rw [C.M.toNat_ofNat (by omega)])
  have HSl : Hid (M.framed r = M.word (M.sumB (M.summed r)) ++ M.summed r) := Lib.hid rfl
  have HLn := Lib.hid (framed_len r)
  generalize M.framed r = sl at *
  clear h hn
  go_enter Tryz.func78, Tryz.ntmps78
  go_wp2_with (first
    | (at_builtin
       refine append_bytes _ rfl (.tmp 8) (.tmp 9) rfl w.heap.size _ 1 1 [UInt8.ofNat r.length] rfl (own_byte w w.heap.size _ _ HB.out (Nat.le_refl _)) a r.length cap r rfl (row_below HR.out ((Below.refl w.heap.size w).alloc (Nat.le_refl _) _) (Nat.le_refl _)) (1 + r.length) rfl (by have := HS.out; omega) (by simp) ?_
       intro a2 cap2 w2 hown2 hb2
       have Ho2 : Hid (OwnB w2 w.heap.size a2 (1 + r.length) cap2 (M.summed r)) := Lib.hid hown2
       have Hb2 : Hid (Below w.heap.size w w2) := Lib.hid (((Below.refl _ w).alloc (Nat.le_refl _) _).trans hb2)
       clear hown2 hb2)
    | (go_at_call 87; refine (K.refsum_any _ _ _ (M.ints8 (M.summed r)) _ (k_row Ho2.out.row (by have := HS.out; omega))).mono ?_; rintro e w' ⟨rfl, rfl⟩
       have HSl2 : Hid (sl = M.word (K.M.more 0#32 (M.ints8 (M.summed r))) ++ M.summed r) := Lib.hid HSl.out
       clear HSl
       generalize K.M.more 0#32 (M.ints8 (M.summed r)) = sm at *)
    | (at_builtin
       refine append_bytes _ rfl (.tmp 24) (.tmp 25) rfl w.heap.size _ 4 4 (M.word sm) rfl (own_word w2 w.heap.size sm Hb2.out.size) a2 (1 + r.length) cap2 (M.summed r) rfl (row_below Ho2.out.row ((Below.refl w2.heap.size w2).alloc (Nat.le_refl _) _) (Nat.le_refl _)) (4 + (1 + r.length)) rfl (by have := HS.out; omega) (by have := Hb2.out.size; simp; omega) ?_
       intro a3 cap3 w3 hown3 hb3
       have Ho3 : Hid (OwnB w3 w.heap.size a3 (4 + (1 + r.length)) cap3 (M.word sm ++ M.summed r)) := Lib.hid hown3
       have Hb3 : Hid (Below w.heap.size w w3) := Lib.hid ((Hb2.out.alloc Hb2.out.size _).trans hb3)
       clear hown3 hb3))
  go_ret
  refine ⟨a3, cap3, ?_, ?_, Hb3.out⟩
  · rw [HLn.out]; rfl
  · rw [HLn.out, HSl2.out]; exact Ho3.out

theorem refenc_slot (w : World) (g : Int) (t : ByteArray) (h : M.MayS g t) :
    Calls Tryz.prog 35 #[.agg #[.int .i64 1, .slice (some ⟨w.heap.size, 0, none⟩) 1 1, .slice (some ⟨w.heap.size + 1, 0, none⟩) 1 1]] ((w.alloc (.cells #[.int .i64 g] 2)).alloc (.cells #[.string t] 9)) fun e w' =>
      ∃ a cap, e = .returned (.tuple #[.slice a (C.M.enc (M.recS g t)).length cap, .int .i64 0]) ∧ OwnB w' (w.heap.size + 2) a (C.M.enc (M.recS g t)).length cap (C.M.enc (M.recS g t)) ∧ Below w.heap.size w w' := by
  obtain ⟨hm, hf⟩ := M.recS_may h
  refine (C.refencode_yes _ (M.recS g t) _ _ _ _ _ _ (recs_at w g t) hm hf).mono ?_
  rintro e w' ⟨a, cap, rfl, ho, hb⟩
  have hs : ((w.alloc (.cells #[.int .i64 g] 2)).alloc (.cells #[.string t] 9)).heap.size = w.heap.size + 2 := by simp
  rw [hs] at ho hb
  exact ⟨a, cap, rfl, ho, (((Below.refl w.heap.size w).alloc (Nat.le_refl _) _).alloc (by simp) _).trans (hb.mono (by omega))⟩

theorem refslot_yes (w : World) (g : Int) (t : ByteArray) (h : M.MayS g t) :
    Calls Tryz.prog 62 #[.int .i64 g, .string t] w fun e w' => ∃ a cap, e = .returned (.slice a (M.slot g t).length cap) ∧ OwnB w' w.heap.size a (M.slot g t).length cap (M.slot g t) ∧ Below w.heap.size w w' := by
  have HE := Lib.hid (refenc_slot w g t h)
  have hsm := M.enc_small h
  have HS := Lib.hid hsm
  obtain ⟨h1, h2, h3⟩ := h
  have h3I : (t.size : Int) ≤ 100 := by omega
  have HF := Lib.hid (fun w1 a cap h => refframed_any w1 a (C.M.enc (M.recS g t)).length cap (C.M.enc (M.recS g t)) h (by omega))
  change Hid (∀ w1 a cap, _ → Calls Tryz.prog 78 _ w1 fun e w' => ∃ a' cap', e = .returned (.slice a' (M.slot g t).length cap') ∧ OwnB w' w1.heap.size a' (M.slot g t).length cap' (M.slot g t) ∧ Below w1.heap.size w1 w') at HF
  generalize M.slot g t = sl at *
  generalize C.M.enc (M.recS g t) = r at *
  clear hsm h3
  go_enter Tryz.func62, Tryz.ntmps62
  go_wp2_with (first
    | (go_at_call 35; refine HE.out.mono ?_; rintro e w1 ⟨a, cap, rfl, ho, hb⟩
       have Ho := Lib.hid ho
       have Hb := Lib.hid hb
       clear ho hb)
    | (go_at_call 78; refine (HF.out w1 a cap Ho.out.row).mono ?_; rintro e w2 ⟨a2, cap2, rfl, ho2, hb2⟩
       have Ho2 := Lib.hid ho2
       have Hb2 := Lib.hid (Hb.out.trans (hb2.mono Hb.out.size))
       clear ho2 hb2))
  go_ret
  exact ⟨a2, cap2, rfl, C.own_mono Ho2.out Hb.out.size, Hb2.out⟩

theorem refslot_no (w : World) (g : Int) (t : ByteArray) (h : ¬ M.MayS g t) :
    Calls Tryz.prog 62 #[.int .i64 g, .string t] w fun e w' => e = .returned (.slice none 0 0) ∧ w = w' := by
  by_cases h1 : g < 1
  · clear h
    go_enter Tryz.func62, Tryz.ntmps62
    go_wp2
    go_ret
    exact ⟨rfl, rfl⟩
  · by_cases h2 : 4611686018427387904 < g
    · clear h
      go_enter Tryz.func62, Tryz.ntmps62
      go_wp2
      go_ret
      exact ⟨rfl, rfl⟩
    · have h3 : (100 : Int) < (t.size : Int) := by
        have : ¬ t.size ≤ 100 := fun hs => h ⟨by omega, by omega, hs⟩
        omega
      clear h
      go_enter Tryz.func62, Tryz.ntmps62
      go_wp2
      go_ret
      exact ⟨rfl, rfl⟩
end Go.Proofs.YtofhijnfbilieaaGreat
namespace Go.Proofs.YtofhijnfbilieaaGreat
open Go.RowKit
set_option linter.unusedVariables false
set_option linter.unusedSimpArgs false
set_option maxRecDepth 20000

theorem mul_four (z0 z1 z2 z3 : Nat) (h0 : z0 < 256) (h1 : z1 < 256) (h2 : z2 < 256) (h3 : z3 < 256) :
    (z0 : Int) * 16777216 + (z1 : Int) * 65536 + (z2 : Int) * 256 + (z3 : Int) = ((z0 * 16777216 + z1 * 65536 + z2 * 256 + z3 : Nat) : Int) := by omega

def zrec : Value := .agg #[.int .i64 0, .slice none 0 0, .slice none 0 0]

/-- two records of zeros, as Unframed lays them -/
def two0 (w : World) : World := (w.alloc (.cells #[.int .i64 0, .slice none 0 0, .slice none 0 0] 99)).alloc (.cells #[.int .i64 0, .slice none 0 0, .slice none 0 0] 99)
theorem two0_below (w : World) : Below w.heap.size w (two0 w) := ((Below.refl _ _).alloc (Nat.le_refl _) _).alloc (by simp) _

theorem unf_short (w : World) (b off n cap : Nat) (z0 z1 z2 z3 z4 : Nat) (h : Five w b off n cap z0 z1 z2 z3 z4) (hlt : b < w.heap.size) (hn : n ≤ 1000) (hk : n < 5 + z4) :
    Calls Tryz.prog 70 #[.slice (some ⟨b, off, none⟩) n cap] w fun e w' => e = .returned (.tuple #[zrec, .bool false]) ∧ Below w.heap.size w w' := by
  obtain ⟨g0, g1, g2, g3, g4', b0, b1, b2, b3, b4, n5, nc⟩ := h
  have g4 : (two0 w).cell? ⟨b, off + 4, none⟩ = some (.int .u8 (z4 : Int)) := by rw [(two0_below w).cell (p := ⟨b, off + 4, none⟩) hlt]; exact g4'
  have hB := Lib.hid (two0_below w)
  unfold two0 at g4 hB
  have hk1 : (z4 : Int) < 256 := by omega
  have hk0 : (0 : Int) ≤ (z4 : Int) := by omega
  have hgt : (n : Int) < 5 + (z4 : Int) := by omega
  have hn5 : (5 : Int) ≤ (n : Int) := by omega
  clear hk nc n5 g0 g1 g2 g3 g4'
  go_enter Tryz.func70, Tryz.ntmps70
  go_wp2_with fail
  refine bodyPost_ret (v := .tuple #[zrec, .bool false]) (by simp [zrec, results, Tryz.results70, go_sem]) rfl ?_
  exact ⟨rfl, hB.out⟩

theorem unf_bad (w : World) (b off n cap : Nat) (z0 z1 z2 z3 z4 : Nat) (h : Five w b off n cap z0 z1 z2 z3 z4) (hlt : b < w.heap.size) (hn : n ≤ 1000) (hn6 : 6 ≤ n) (hk : 5 + z4 ≤ n) (S : Int) (hS : (S != (z0 : Int) * 16777216 + (z1 : Int) * 65536 + (z2 : Int) * 256 + (z3 : Int)) = true)
    (hc : ∀ q, Calls Tryz.prog 87 #[.slice (some ⟨b, off + 4, none⟩) (5 + z4 - 4) (cap - 4)] ((two0 w).drewN q) fun e w'' => e = .returned (.int .u32 S) ∧ (two0 w).drewN q = w'') :
    Calls Tryz.prog 70 #[.slice (some ⟨b, off, none⟩) n cap] w fun e w' => e = .returned (.tuple #[zrec, .bool false]) ∧ Below w.heap.size w w' := by
  obtain ⟨h0, h1, h2, h3, h4, b0, b1, b2, b3, b4, n5, nc⟩ := h
  have g0 : (two0 w).cell? ⟨b, off, none⟩ = some (.int .u8 (z0 : Int)) := by rw [(two0_below w).cell (p := ⟨b, off, none⟩) hlt]; exact h0
  have g1 : (two0 w).cell? ⟨b, off + 1, none⟩ = some (.int .u8 (z1 : Int)) := by rw [(two0_below w).cell (p := ⟨b, off + 1, none⟩) hlt]; exact h1
  have g2 : (two0 w).cell? ⟨b, off + 2, none⟩ = some (.int .u8 (z2 : Int)) := by rw [(two0_below w).cell (p := ⟨b, off + 2, none⟩) hlt]; exact h2
  have g3 : (two0 w).cell? ⟨b, off + 3, none⟩ = some (.int .u8 (z3 : Int)) := by rw [(two0_below w).cell (p := ⟨b, off + 3, none⟩) hlt]; exact h3
  have g4 : (two0 w).cell? ⟨b, off + 4, none⟩ = some (.int .u8 (z4 : Int)) := by rw [(two0_below w).cell (p := ⟨b, off + 4, none⟩) hlt]; exact h4
  have hB := Lib.hid (two0_below w)
  have HC := Lib.hid hc
  unfold two0 at g0 g1 g2 g3 g4 hB HC
  have hk1 : (z4 : Int) < 256 := by omega
  have hk0 : (0 : Int) ≤ (z4 : Int) := by omega
  have hgt : 5 + (z4 : Int) ≤ (n : Int) := by omega
  have hgt2 : 5 + (z4 : Int) ≤ (cap : Int) := by omega
  have hn5 : (5 : Int) ≤ (n : Int) := by omega
  have hc4 : ¬ cap = 4 := by omega
  have hc5 : ¬ cap = 5 := by omega
  clear hk nc n5 h0 h1 h2 h3 h4 hc
  go_enter Tryz.func70, Tryz.ntmps70
  go_wp2_with fail
  go_quiet (fail)
  go_wp2_with (go_at_call 87; refine (HC.out _).mono ?_; rintro e w' ⟨rfl, rfl⟩)
  refine bodyPost_ret (v := .tuple #[zrec, .bool false]) (by simp [zrec, results, Tryz.results70, go_sem]) rfl ?_
  exact ⟨rfl, (((hB.out.trans (below_drewN _ _ _)).setCell (Nat.le_refl _) _).setCell (Nat.le_refl _) _).setCell (Nat.le_refl _) _⟩

theorem two0_rec (w : World) : C.Rec3 (two0 w) w.heap.size 0 none 0 0 none 0 0 := by
  unfold two0
  refine ⟨?_, ?_, ?_, ?_, ?_, ?_⟩ <;> go_simp

/-- a record's three parts, written over -/
theorem rec_over {w : World} {N : Nat} {k : Int} {aN : Option Addr} {nN cN : Nat} {aT : Option Addr} {nT cT : Nat} (h : C.Rec3 w N k aN nN cN aT nT cT) (v0 v1 v2 : Value) :
    (((w.setCell ⟨N, 0, none⟩ v0).setCell ⟨N, 1, none⟩ v1).setCell ⟨N, 2, none⟩ v2).cell? ⟨N, 0, none⟩ = some v0 ∧ (((w.setCell ⟨N, 0, none⟩ v0).setCell ⟨N, 1, none⟩ v1).setCell ⟨N, 2, none⟩ v2).cell? ⟨N, 1, none⟩ = some v1 ∧
    (((w.setCell ⟨N, 0, none⟩ v0).setCell ⟨N, 1, none⟩ v1).setCell ⟨N, 2, none⟩ v2).cell? ⟨N, 2, none⟩ = some v2 := by
  obtain ⟨g1, g2, g3, g4, g5, g6⟩ := h
  refine ⟨?_, ?_, ?_⟩
  · rw [World.cell?_setCell_other _ _ _ _ (by simp), World.cell?_setCell_other _ _ _ _ (by simp)]
    exact World.cell?_setCell_same _ _ _ g1
  · rw [World.cell?_setCell_other _ _ _ _ (by simp)]
    exact World.cell?_setCell_same _ _ _ (show _ = some (Value.slice aN nN cN) by rw [World.cell?_setCell_other _ _ _ _ (by simp)]; exact g2)
  · exact World.cell?_setCell_same _ _ _ (show _ = some (Value.slice aT nT cT) by rw [World.cell?_setCell_other _ _ _ _ (by simp), World.cell?_setCell_other _ _ _ _ (by simp)]; exact g3)

/-- what Unframed tells -/
def UPost (w : World) (l : List UInt8) (e : Ending) (w' : World) : Prop :=
  Below w.heap.size w w' ∧ ((∃ r aN nN cN aT nT cT, C.M.dec l = some r ∧ C.RecOwn w' w.heap.size r aN nN cN aT nT cT ∧ e = .returned (.tuple #[.agg #[.int .i64 r.kind, .slice aN nN cN, .slice aT nT cT], .bool true])) ∨ (C.M.dec l = none ∧ e = .returned (.tuple #[zrec, .bool false])))

set_option maxHeartbeats 1000000 in
theorem unf_rec (w : World) (b off n cap : Nat) (z0 z1 z2 z3 z4 : Nat) (h : Five w b off n cap z0 z1 z2 z3 z4) (hlt : b < w.heap.size) (hn : n ≤ 1000) (hn6 : 6 ≤ n) (hk : 5 + z4 ≤ n) (l5 : List UInt8)
    (hc : ∀ q, Calls Tryz.prog 87 #[.slice (some ⟨b, off + 4, none⟩) (5 + z4 - 4) (cap - 4)] ((two0 w).drewN q) fun e w'' => e = .returned (.int .u32 ((z0 : Int) * 16777216 + (z1 : Int) * 65536 + (z2 : Int) * 256 + (z3 : Int))) ∧ (two0 w).drewN q = w'')
    (hd : ∀ q, Calls Tryz.prog 51 #[.slice (some ⟨b, off + 5, none⟩) z4 (cap - 5)] ((two0 w).drewN q) (C.DPost ((two0 w).drewN q) l5)) :
    Calls Tryz.prog 70 #[.slice (some ⟨b, off, none⟩) n cap] w (UPost w l5) := by
  obtain ⟨h0, h1, h2, h3, h4, b0, b1, b2, b3, b4, n5, nc⟩ := h
  have g0 : (two0 w).cell? ⟨b, off, none⟩ = some (.int .u8 (z0 : Int)) := by rw [(two0_below w).cell (p := ⟨b, off, none⟩) hlt]; exact h0
  have g1 : (two0 w).cell? ⟨b, off + 1, none⟩ = some (.int .u8 (z1 : Int)) := by rw [(two0_below w).cell (p := ⟨b, off + 1, none⟩) hlt]; exact h1
  have g2 : (two0 w).cell? ⟨b, off + 2, none⟩ = some (.int .u8 (z2 : Int)) := by rw [(two0_below w).cell (p := ⟨b, off + 2, none⟩) hlt]; exact h2
  have g3 : (two0 w).cell? ⟨b, off + 3, none⟩ = some (.int .u8 (z3 : Int)) := by rw [(two0_below w).cell (p := ⟨b, off + 3, none⟩) hlt]; exact h3
  have g4 : (two0 w).cell? ⟨b, off + 4, none⟩ = some (.int .u8 (z4 : Int)) := by rw [(two0_below w).cell (p := ⟨b, off + 4, none⟩) hlt]; exact h4
  have hB := Lib.hid (two0_below w)
  have hR := Lib.hid (two0_rec w)
  have hSz : Hid ((two0 w).heap.size = w.heap.size + 2) := Lib.hid (by unfold two0; simp)
  have HC := Lib.hid hc
  have HD := Lib.hid hd
  unfold two0 at g0 g1 g2 g3 g4 HC HD
  have hk1 : (z4 : Int) < 256 := by omega
  have hk0 : (0 : Int) ≤ (z4 : Int) := by omega
  have hgt : 5 + (z4 : Int) ≤ (n : Int) := by omega
  have hgt2 : 5 + (z4 : Int) ≤ (cap : Int) := by omega
  have hn5 : (5 : Int) ≤ (n : Int) := by omega
  have hc4 : ¬ cap = 4 := by omega
  have hc5 : ¬ cap = 5 := by omega
  clear hk nc n5 h0 h1 h2 h3 h4 hc hd
  go_enter Tryz.func70, Tryz.ntmps70
  go_wp2_with fail
  go_quiet (fail)
  go_wp2_with (go_at_call 87; refine (HC.out _).mono ?_; rintro e w' ⟨rfl, rfl⟩)
  refine (HD.out _).mono ?_
  rintro e w1 ⟨hb, ⟨r, v, hdc, ⟨aN, nN, cN, aT, nT, cT, rfl, ho1, ho2⟩, rfl⟩ | ⟨hdc, he⟩⟩
  · have hb2 : Below (w.heap.size + 2) (two0 w) w1 := (below_drewN _ (two0 w) nq).trans (hSz.out ▸ hb)
    have hr1 := C.rec3_below hR.out hb2 (by omega)
    have HRo : Hid (C.RecOwn w1 (w.heap.size + 2) r aN nN cN aT nT cT) := Lib.hid ⟨hSz.out ▸ ho1, hSz.out ▸ ho2⟩
    have hr2 : C.Rec3 (w1.alloc (.cells #[.int .i64 r.kind, .slice aN nN cN, .slice aT nT cT] 99)) w.heap.size 0 none 0 0 none 0 0 := C.rec3_below hr1 ((Below.refl w1.heap.size w1).alloc (Nat.le_refl _) _) (by have := hb2.size; have := hSz.out; omega)
    have Hr2 := Lib.hid hr2
    obtain ⟨r1, r2, r3, r4, r5, r6⟩ := hr2
    have HB1 : Hid (Below w.heap.size w (w1.alloc (.cells #[.int .i64 r.kind, .slice aN nN cN, .slice aT nT cT] 99))) := Lib.hid ((hB.out.trans (hb2.mono (by omega))).alloc (by have := hb2.size; have := hSz.out; omega) _)
    have HDc := Lib.hid hdc
    have HRo2 : Hid (C.RecOwn (w1.alloc (.cells #[.int .i64 r.kind, .slice aN nN cN, .slice aT nT cT] 99)) (w.heap.size + 2) r aN nN cN aT nT cT) := Lib.hid (HRo.out.below ((Below.refl w1.heap.size w1).alloc (Nat.le_refl _) _) (Nat.le_refl _))
    clear hdc ho1 ho2 hb hb2 hr1
    go_wp2_with fail
    obtain ⟨q1, q2, q3⟩ := rec_over Hr2.out (.int .i64 r.kind) (.slice aN nN cN) (.slice aT nT cT)
    refine bodyPost_ret (v := .tuple #[.agg #[.int .i64 r.kind, .slice aN nN cN, .slice aT nT cT], .bool true]) (by simp [results, Tryz.results70, go_sem, q1, q2, q3]) rfl ?_
    have hro := ((HRo2.out.set (p := ⟨w.heap.size, 0, none⟩) (.int .i64 r.kind) (by simp)).set (p := ⟨w.heap.size, 1, none⟩) (.slice aN nN cN) (by simp)).set (p := ⟨w.heap.size, 2, none⟩) (.slice aT nT cT) (by simp)
    exact ⟨((HB1.out.setCell (Nat.le_refl _) _).setCell (Nat.le_refl _) _).setCell (Nat.le_refl _) _, .inl ⟨r, aN, nN, cN, aT, nT, cT, HDc.out, ⟨C.own_mono hro.nums (by omega), C.own_mono hro.texts (by omega)⟩, rfl⟩⟩
  · unfold C.zeroRec at he
    subst he
    have hb2 : Below (w.heap.size + 2) (two0 w) w1 := (below_drewN _ (two0 w) nq).trans (hSz.out ▸ hb)
    have hr1 := C.rec3_below hR.out hb2 (by omega)
    have hr2 : C.Rec3 (w1.alloc (.cells #[.int .i64 0, .slice none 0 0, .slice none 0 0] 99)) w.heap.size 0 none 0 0 none 0 0 := C.rec3_below hr1 ((Below.refl w1.heap.size w1).alloc (Nat.le_refl _) _) (by have := hb2.size; have := hSz.out; omega)
    have Hr2 := Lib.hid hr2
    obtain ⟨r1, r2, r3, r4, r5, r6⟩ := hr2
    have HB1 : Hid (Below w.heap.size w (w1.alloc (.cells #[.int .i64 0, .slice none 0 0, .slice none 0 0] 99))) := Lib.hid ((hB.out.trans (hb2.mono (by omega))).alloc (by have := hb2.size; have := hSz.out; omega) _)
    have HDc := Lib.hid hdc
    clear hdc hb hb2 hr1
    go_wp2_with fail
    obtain ⟨q1, q2, q3⟩ := rec_over Hr2.out (.int .i64 0) (.slice none 0 0) (.slice none 0 0)
    refine bodyPost_ret (v := .tuple #[zrec, .bool false]) (by simp [zrec, results, Tryz.results70, go_sem, q1, q2, q3]) rfl ?_
    exact ⟨((HB1.out.setCell (Nat.le_refl _) _).setCell (Nat.le_refl _) _).setCell (Nat.le_refl _) _, .inr ⟨HDc.out, rfl⟩⟩
end Go.Proofs.YtofhijnfbilieaaGreat
namespace Go.Proofs.YtofhijnfbilieaaGreat
open Go.RowKit
set_option linter.unusedVariables false
set_option linter.unusedSimpArgs false
set_option maxRecDepth 20000

/-- what Unframed tells of any bytes -/
theorem unf_any (w : World) (b off n cap : Nat) (l : List UInt8) (h : Row w (some ⟨b, off, none⟩) n cap (u8s l)) (hn : n ≤ 1000) (hn6 : 6 ≤ n) :
    Calls Tryz.prog 70 #[.slice (some ⟨b, off, none⟩) n cap] w fun e w' => Below w.heap.size w w' ∧
      ((∃ r aN nN cN aT nT cT, M.unframe l = some r ∧ C.RecOwn w' w.heap.size r aN nN cN aT nT cT ∧ e = .returned (.tuple #[.agg #[.int .i64 r.kind, .slice aN nN cN, .slice aT nT cT], .bool true])) ∨ (M.unframe l = none ∧ e = .returned (.tuple #[zrec, .bool false]))) := by
  have hl : l.length = n := by have := h.1; rwa [u8s_length] at this
  have hlt : b < w.heap.size := by
    obtain ⟨_, _, _, h0 | ⟨b', off', e, hlt, _⟩⟩ := h
    · have : l = [] := by simpa [u8s] using h0
      subst this; simp at hl; omega
    · injection e with e
      injection e with e1 _ _
      subst e1
      exact hlt
  match l, h, hl with
  | c0 :: c1 :: c2 :: c3 :: k :: r, h, hl =>
    obtain ⟨h5, hnr⟩ := five_of h
    by_cases hs : r.length < k.toNat
    · refine (unf_short w b off n cap _ _ _ _ _ h5 hlt hn (by omega)).mono ?_
      rintro e w' ⟨rfl, hb⟩
      exact ⟨hb, .inr ⟨by simp only [M.unframe]; rw [if_neg (by omega)], rfl⟩⟩
    · have hk : 5 + k.toNat ≤ n := by omega
      have hw0 := two0_below w
      have h' : Row (two0 w) (some ⟨b, off, none⟩) n cap (u8s (c0 :: c1 :: c2 :: c3 :: k :: r)) := row_below h hw0 (Nat.le_refl _)
      have r4 : Row (two0 w) (some ⟨b, off + 4, none⟩) (5 + k.toNat - 4) (cap - 4) (u8s (k :: r.take k.toNat)) := by
        have := row_mid h' (show 4 ≤ 5 + k.toNat by omega) hk
        have e : ((u8s (c0 :: c1 :: c2 :: c3 :: k :: r)).take (5 + k.toNat)).drop 4 = u8s (k :: r.take k.toNat) := by
          rw [show 5 + k.toNat = k.toNat + 1 + 1 + 1 + 1 + 1 by omega]
          simp [u8s]
        rw [e] at this
        exact this
      have r5 : Row (two0 w) (some ⟨b, off + 5, none⟩) k.toNat (cap - 5) (u8s (r.take k.toNat)) := by
        have := row_mid h' (show 5 ≤ 5 + k.toNat by omega) hk
        have e : ((u8s (c0 :: c1 :: c2 :: c3 :: k :: r)).take (5 + k.toNat)).drop 5 = u8s (r.take k.toNat) := by
          rw [show 5 + k.toNat = k.toNat + 1 + 1 + 1 + 1 + 1 by omega]
          simp [u8s]
        rw [e, show 5 + k.toNat - 5 = k.toNat by omega] at this
        exact this
      have hz : ((c0.toNat : Int) * 16777216 + (c1.toNat : Int) * 65536 + (c2.toNat : Int) * 256 + (c3.toNat : Int)) = ((M.num4 c0 c1 c2 c3 : Nat) : Int) := by unfold M.num4; omega
      have hklt := k.toNat_lt
      have hsum : ∀ q, Calls Tryz.prog 87 #[.slice (some ⟨b, off + 4, none⟩) (5 + k.toNat - 4) (cap - 4)] ((two0 w).drewN q) fun e w'' => e = .returned (.int .u32 ((M.sumB (k :: r.take k.toNat)).toNat : Int)) ∧ (two0 w).drewN q = w'' := fun q =>
        K.refsum_any _ _ _ _ _ (k_row (row_drewN r4 q) (by omega))
      by_cases he : (M.sumB (k :: r.take k.toNat)).toNat = M.num4 c0 c1 c2 c3
      · have e : M.unframe (c0 :: c1 :: c2 :: c3 :: k :: r) = C.M.dec (r.take k.toNat) := by
          simp only [M.unframe]
          rw [if_pos (by omega), if_pos he]
        refine (unf_rec w b off n cap _ _ _ _ _ h5 hlt hn hn6 hk (r.take k.toNat) (fun q => ?_) (fun q => C.refdecode_any _ _ _ _ _ (c_row (row_drewN r5 q)) (by omega))).mono ?_
        · rw [hz, ← he]; exact hsum q
        · rintro e1 w1 ⟨hb, ⟨rc, aN, nN, cN, aT, nT, cT, hd, ho, rfl⟩ | ⟨hd, rfl⟩⟩
          · exact ⟨hb, .inl ⟨rc, aN, nN, cN, aT, nT, cT, by rw [e]; exact hd, ho, rfl⟩⟩
          · exact ⟨hb, .inr ⟨by rw [e]; exact hd, rfl⟩⟩
      · have e : M.unframe (c0 :: c1 :: c2 :: c3 :: k :: r) = none := by
          simp only [M.unframe]
          rw [if_pos (by omega), if_neg he]
        refine (unf_bad w b off n cap _ _ _ _ _ h5 hlt hn hn6 hk _ ?_ hsum).mono ?_
        · rw [hz]; simp; omega
        · rintro e1 w1 ⟨rfl, hb⟩
          exact ⟨hb, .inr ⟨e, rfl⟩⟩
  | [], _, hl => simp at hl; omega
  | [_], _, hl => simp at hl; omega
  | [_, _], _, hl => simp at hl; omega
  | [_, _, _], _, hl => simp at hl; omega
  | [_, _, _, _], _, hl => simp at hl; omega

set_option maxHeartbeats 2000000 in
theorem refread_any (w : World) (b off n cap : Nat) (l : List UInt8) (h : Row w (some ⟨b, off, none⟩) n cap (u8s l)) (hn : n ≤ 1000) (hn6 : 6 ≤ n) :
    Calls Tryz.prog 50 #[.slice (some ⟨b, off, none⟩) n cap] w fun e w' => e = .returned (.tuple #[.int .i64 (M.rdP l).1, .string (M.rdP l).2]) ∧ Below w.heap.size w w' := by
  have HU := Lib.hid (unf_any w b off n cap l h hn hn6)
  have hp : M.rdP l = ((M.unframe l).bind M.asSlot).getD (0, ByteArray.empty) := rfl
  have HP := Lib.hid hp
  generalize M.rdP l = p at *
  clear hp h
  go_enter Tryz.func50, Tryz.ntmps50
  go_wp2_with fail
  refine HU.out.mono ?_
  rintro e w1 ⟨hb, ⟨r, aN, nN, cN, aT, nT, cT, hu, hro, rfl⟩ | ⟨hu, he⟩⟩
  · have Hb := Lib.hid hb
    have hr := recout_of hro
    have HP2 : Hid (p = (M.asSlot r).getD (0, ByteArray.empty)) := Lib.hid (by rw [HP.out, hu]; rfl)
    rw [← HP2.out] at hr
    generalize r.kind = kd at *
    clear hb hu hro
    rcases hr with ⟨h1, rfl⟩ | ⟨h1, h2, rfl⟩ | ⟨h1, h2, h3, rfl⟩ | ⟨g, t, bN, bT, h1, h2, h3, rfl, rfl, l1, l2, k1, k2, hm⟩
    · have e1 : (kd != 1) = true := by simpa using h1
      clear h1
      go_wp2_with fail
      go_ret2
      exact ⟨rfl, Hb.out.alloc Hb.out.size _⟩
    · subst h1
      have e1 : ((nN : Int) != 1) = true := by simp; omega
      clear h2
      go_wp2_with fail
      go_ret2
      exact ⟨rfl, Hb.out.alloc Hb.out.size _⟩
    · subst h1 h2
      have e1 : ((nT : Int) != 1) = true := by simp; omega
      clear h3
      go_wp2_with fail
      go_ret2
      exact ⟨rfl, Hb.out.alloc Hb.out.size _⟩
    · subst h1 h2 h3
      have m1 : (w1.alloc (.cells #[.int .i64 1, .slice (some ⟨bN, 0, none⟩) 1 cN, .slice (some ⟨bT, 0, none⟩) 1 cT] 99)).cell? ⟨bN, 0, none⟩ = some (.int .i64 g) := by
        rw [World.cell?_alloc_lt _ _ _ l1]; exact k1
      have m2 : (w1.alloc (.cells #[.int .i64 1, .slice (some ⟨bN, 0, none⟩) 1 cN, .slice (some ⟨bT, 0, none⟩) 1 cT] 99)).cell? ⟨bT, 0, none⟩ = some (.string t) := by
        rw [World.cell?_alloc_lt _ _ _ l2]; exact k2
      clear k1 k2 l1 l2
      rcases hm with ⟨⟨y1, y2, y3⟩, rfl⟩ | ⟨hm, rfl⟩
      · have y3' : (t.size : Int) ≤ 100 := by omega
        clear y3
        go_wp2_with fail
        go_quiet (fail)
        go_wp2_with fail
        go_ret2
        exact ⟨rfl, (Hb.out.alloc Hb.out.size _).trans (below_drewN _ _ _)⟩
      · by_cases y3 : t.size ≤ 100
        · have y3' : (t.size : Int) ≤ 100 := by omega
          by_cases y1 : g < 1
          · clear hm y3
            go_wp2_with fail
            go_ret2
            exact ⟨rfl, Hb.out.alloc Hb.out.size _⟩
          · have y2 : 4611686018427387904 < g := by
              have : ¬ g ≤ 4611686018427387904 := fun h => hm ⟨by omega, h, y3⟩
              omega
            clear hm y3
            go_wp2_with fail
            go_ret2
            exact ⟨rfl, Hb.out.alloc Hb.out.size _⟩
        · have y3' : (100 : Int) < (t.size : Int) := by omega
          clear hm y3
          go_wp2_with fail
          go_ret2
          exact ⟨rfl, Hb.out.alloc Hb.out.size _⟩
  · have HP2 : p = (0, ByteArray.empty) := by rw [HP.out, hu]; rfl
    have Hb := Lib.hid hb
    unfold zrec at he
    subst he HP2
    clear hb hu
    go_wp2_with fail
    go_ret2
    exact ⟨rfl, Hb.out.alloc Hb.out.size _⟩
end Go.Proofs.YtofhijnfbilieaaGreat
