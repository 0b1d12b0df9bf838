/-
  The document's own slot: what the reference functions answer.
-/
import Derived.Test.YtipfhcplmlmaeaaRef1
import Derived.Test.YtipfhcplmlmaeaaCel1
import Derived.Test.YtipfhcplmlmaeaaCRefw
namespace Go.Proofs.Ytipfhcplmlmaeaa
open Go.RowKit
set_option linter.unusedVariables false
set_option linter.unusedSimpArgs false
set_option maxRecDepth 20000

theorem framed_len (r : List UInt8) : (M.framed r).length = 4 + (1 + r.length) := by
  simp [M.framed, M.word, M.summed]; omega

set_option maxHeartbeats 1000000 in
theorem refframed_any (w : World) (a : Option Addr) (n cap : Nat) (r : List UInt8) (h : Row w a n cap (u8s r)) (hn : n ≤ 200) :
    Calls Try.prog 28 #[.slice a n cap] w fun e w' => ∃ a' cap', e = .returned (.slice a' (M.framed r).length cap') ∧ OwnB w' w.heap.size a' (M.framed r).length cap' (M.framed r) ∧ Below w.heap.size w w' := by
  have hl : r.length = n := by have := h.1; rwa [u8s_length] at this
  subst hl
  have HR := Lib.hid h
  have HS := Lib.hid hn
  have hlenI : (r.length : Int) ≤ 200 := by omega
  have HB : Hid ((r.length : Int) = (((UInt8.ofNat r.length).toNat : Nat) : Int)) := Lib.hid (by rw [C.M.toNat_ofNat (by omega)])
  have HSl : Hid (M.framed r = M.word (M.sumB (M.summed r)) ++ M.summed r) := Lib.hid rfl
  have HLn := Lib.hid (framed_len r)
  generalize M.framed r = sl at *
  clear h hn
  go_enter Try.func28, Try.ntmps28
  go_wp2_with (first
    | (at_builtin
       refine append_bytes _ rfl (.tmp 8) (.tmp 9) rfl w.heap.size _ 1 1 [UInt8.ofNat r.length] rfl (own_byte w w.heap.size _ _ HB.out (Nat.le_refl _)) a r.length cap r rfl (row_below HR.out ((Below.refl w.heap.size w).alloc (Nat.le_refl _) _) (Nat.le_refl _)) (1 + r.length) rfl (by have := HS.out; omega) (by simp) ?_
       intro a2 cap2 w2 hown2 hb2
       have Ho2 : Hid (OwnB w2 w.heap.size a2 (1 + r.length) cap2 (M.summed r)) := Lib.hid hown2
       have Hb2 : Hid (Below w.heap.size w w2) := Lib.hid (((Below.refl _ w).alloc (Nat.le_refl _) _).trans hb2)
       clear hown2 hb2)
    | (go_at_call 44; refine (K.refsum_any _ _ _ (M.ints8 (M.summed r)) _ (k_row Ho2.out.row (by have := HS.out; omega))).mono ?_; rintro e w' ⟨rfl, rfl⟩
       have HSl2 : Hid (sl = M.word (K.M.more 0#32 (M.ints8 (M.summed r))) ++ M.summed r) := Lib.hid HSl.out
       clear HSl
       generalize K.M.more 0#32 (M.ints8 (M.summed r)) = sm at *)
    | (at_builtin
       refine append_bytes _ rfl (.tmp 24) (.tmp 25) rfl w.heap.size _ 4 4 (M.word sm) rfl (own_word w2 w.heap.size sm Hb2.out.size) a2 (1 + r.length) cap2 (M.summed r) rfl (row_below Ho2.out.row ((Below.refl w2.heap.size w2).alloc (Nat.le_refl _) _) (Nat.le_refl _)) (4 + (1 + r.length)) rfl (by have := HS.out; omega) (by have := Hb2.out.size; simp; omega) ?_
       intro a3 cap3 w3 hown3 hb3
       have Ho3 : Hid (OwnB w3 w.heap.size a3 (4 + (1 + r.length)) cap3 (M.word sm ++ M.summed r)) := Lib.hid hown3
       have Hb3 : Hid (Below w.heap.size w w3) := Lib.hid ((Hb2.out.alloc Hb2.out.size _).trans hb3)
       clear hown3 hb3))
  go_ret
  refine ⟨a3, cap3, ?_, ?_, Hb3.out⟩
  · rw [HLn.out]; rfl
  · rw [HLn.out, HSl2.out]; exact Ho3.out

theorem refenc_slot (w : World) (g : Int) (t : ByteArray) (h : M.MayS g t) :
    Calls Try.prog 27 #[.agg #[.int .i64 1, .slice (some ⟨w.heap.size, 0, none⟩) 1 1, .slice (some ⟨w.heap.size + 1, 0, none⟩) 1 1]] ((w.alloc (.cells #[.int .i64 g] 2)).alloc (.cells #[.string t] 9)) fun e w' =>
      ∃ a cap, e = .returned (.tuple #[.slice a (C.M.enc (M.recS g t)).length cap, .int .i64 0]) ∧ OwnB w' (w.heap.size + 2) a (C.M.enc (M.recS g t)).length cap (C.M.enc (M.recS g t)) ∧ Below w.heap.size w w' := by
  obtain ⟨hm, hf⟩ := M.recS_may h
  refine (C.refencode_yes _ (M.recS g t) _ _ _ _ _ _ (recs_at w g t) hm hf).mono ?_
  rintro e w' ⟨a, cap, rfl, ho, hb⟩
  have hs : ((w.alloc (.cells #[.int .i64 g] 2)).alloc (.cells #[.string t] 9)).heap.size = w.heap.size + 2 := by simp
  rw [hs] at ho hb
  exact ⟨a, cap, rfl, ho, (((Below.refl w.heap.size w).alloc (Nat.le_refl _) _).alloc (by simp) _).trans (hb.mono (by omega))⟩

theorem refslot_yes (w : World) (g : Int) (t : ByteArray) (h : M.MayS g t) :
    Calls Try.prog 10 #[.int .i64 g, .string t] w fun e w' => ∃ a cap, e = .returned (.slice a (M.slot g t).length cap) ∧ OwnB w' w.heap.size a (M.slot g t).length cap (M.slot g t) ∧ Below w.heap.size w w' := by
  have HE := Lib.hid (refenc_slot w g t h)
  have hsm := M.enc_small h
  have HS := Lib.hid hsm
  obtain ⟨h1, h2, h3⟩ := h
  have h3I : (t.size : Int) ≤ 100 := by omega
  have HF := Lib.hid (fun w1 a cap h => refframed_any w1 a (C.M.enc (M.recS g t)).length cap (C.M.enc (M.recS g t)) h (by omega))
  change Hid (∀ w1 a cap, _ → Calls Try.prog 28 _ w1 fun e w' => ∃ a' cap', e = .returned (.slice a' (M.slot g t).length cap') ∧ OwnB w' w1.heap.size a' (M.slot g t).length cap' (M.slot g t) ∧ Below w1.heap.size w1 w') at HF
  generalize M.slot g t = sl at *
  generalize C.M.enc (M.recS g t) = r at *
  clear hsm h3
  go_enter Try.func10, Try.ntmps10
  go_wp2_with (first
    | (go_at_call 27; refine HE.out.mono ?_; rintro e w1 ⟨a, cap, rfl, ho, hb⟩
       have Ho := Lib.hid ho
       have Hb := Lib.hid hb
       clear ho hb)
    | (go_at_call 28; refine (HF.out w1 a cap Ho.out.row).mono ?_; rintro e w2 ⟨a2, cap2, rfl, ho2, hb2⟩
       have Ho2 := Lib.hid ho2
       have Hb2 := Lib.hid (Hb.out.trans (hb2.mono Hb.out.size))
       clear ho2 hb2))
  go_ret
  exact ⟨a2, cap2, rfl, C.own_mono Ho2.out Hb.out.size, Hb2.out⟩

theorem refslot_no (w : World) (g : Int) (t : ByteArray) (h : ¬ M.MayS g t) :
    Calls Try.prog 10 #[.int .i64 g, .string t] w fun e w' => e = .returned (.slice none 0 0) ∧ w = w' := by
  by_cases h1 : g < 1
  · clear h
    go_enter Try.func10, Try.ntmps10
    go_wp2
    go_ret
    exact ⟨rfl, rfl⟩
  · by_cases h2 : 4611686018427387904 < g
    · clear h
      go_enter Try.func10, Try.ntmps10
      go_wp2
      go_ret
      exact ⟨rfl, rfl⟩
    · have h3 : (100 : Int) < (t.size : Int) := by
        have : ¬ t.size ≤ 100 := fun hs => h ⟨by omega, by omega, hs⟩
        omega
      clear h
      go_enter Try.func10, Try.ntmps10
      go_wp2
      go_ret
      exact ⟨rfl, rfl⟩
end Go.Proofs.Ytipfhcplmlmaeaa
