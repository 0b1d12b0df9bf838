/-
  A record's bytes, as the code tells them.
-/
import Derived.Test.YtmcalgnpinolmaaGreatLog1
namespace Go.Proofs.YtmcalgnpinolmaaGreat
open Go.RowKit
set_option linter.unusedVariables false
set_option linter.unusedSimpArgs false
set_option maxRecDepth 20000

/-- the record, as 'bytes' lays it -/
theorem recl_at (w : World) (k : Int) (r : M.Rl) :
    C.RecAt ((w.alloc (.cells #[.int .i64 k, .int .i64 r.time] 2)).alloc (.cells #[.string r.s] 9)) (M.recL k r) (some ⟨w.heap.size, 0, none⟩) 2 2 (some ⟨w.heap.size + 1, 0, none⟩) 1 1 where
  nums := by
    have h := (C.own_row (C.own_lit 2 w 0 (C.i64s [k, r.time]) (Nat.zero_le _) (by simp [C.i64s]))).1
    exact C.row_below h ((Below.refl _ _).alloc (Nat.le_refl _) _) (Nat.le_refl _)
  texts := by
    have := C.row_str_new (w.alloc (.cells #[.int .i64 k, .int .i64 r.time] 2)) r.s
    rw [show (w.alloc (.cells #[.int .i64 k, .int .i64 r.time] 2)).heap.size = w.heap.size + 1 by simp] at this
    exact this

theorem enc_recl (w : World) (k : Int) (r : M.Rl) (h : M.MayL k r) :
    Calls Tryz.prog 109 #[.agg #[.int .i64 2, .slice (some ⟨w.heap.size, 0, none⟩) 2 2, .slice (some ⟨w.heap.size + 1, 0, none⟩) 1 1]] ((w.alloc (.cells #[.int .i64 k, .int .i64 r.time] 2)).alloc (.cells #[.string r.s] 9)) fun e w' =>
      ∃ a cap, e = .returned (.tuple #[.slice a (C.M.enc (M.recL k r)).length cap, .int .i64 0]) ∧ OwnB w' (w.heap.size + 2) a (C.M.enc (M.recL k r)).length cap (C.M.enc (M.recL k r)) ∧ Below w.heap.size w w' := by
  obtain ⟨hm, hf⟩ := M.recL_may h
  refine (C.encode_yes _ (M.recL k r) _ _ _ _ _ _ (recl_at w k r) hm hf).mono ?_
  rintro e w' ⟨a, cap, rfl, ho, hb⟩
  have hs : ((w.alloc (.cells #[.int .i64 k, .int .i64 r.time] 2)).alloc (.cells #[.string r.s] 9)).heap.size = w.heap.size + 2 := by simp
  rw [hs] at ho hb
  exact ⟨a, cap, rfl, ho, (((Below.refl w.heap.size w).alloc (Nat.le_refl _) _).alloc (by simp) _).trans (hb.mono (by omega))⟩

set_option maxHeartbeats 1000000 in
theorem recb_any (w : World) (k : Int) (r : M.Rl) (h : M.MayL k r) :
    Calls Tryz.prog 127 #[.agg #[.int .i64 r.time, .string r.s], .int .i64 k] w fun e w' => ∃ a cap, e = .returned (.slice a (M.secL k r).length cap) ∧ OwnB w' w.heap.size a (M.secL k r).length cap (M.secL k r) ∧ Below w.heap.size w w' := by
  have HE := Lib.hid (enc_recl (w.alloc (.cells #[.int .i64 r.time, .string r.s] 139)) k r h)
  rw [show (w.alloc (.cells #[.int .i64 r.time, .string r.s] 139)).heap.size = w.heap.size + 1 by simp] at HE
  have hsm := M.encL_small h
  have hlenI : ((C.M.enc (M.recL k r)).length : Int) ≤ 133 := by omega
  have HS := Lib.hid hsm
  have HB : Hid (((C.M.enc (M.recL k r)).length : Int) = (((UInt8.ofNat (C.M.enc (M.recL k r)).length).toNat : Nat) : Int)) := Lib.hid (by rw [C.M.toNat_ofNat (by omega)])
  have HSl : Hid (M.secL k r = M.word (M.sumB (M.summed (C.M.enc (M.recL k r)))) ++ M.summed (C.M.enc (M.recL k r))) := Lib.hid rfl
  have HLn : Hid ((M.secL k r).length = 5 + (C.M.enc (M.recL k r)).length) := Lib.hid (M.framed_len _)
  generalize M.secL k r = sl at *
  clear h hsm
  generalize C.M.enc (M.recL k r) = q at *
  obtain ⟨rt, rs⟩ := r
  go_enter Tryz.func127, Tryz.ntmps127
  go_wp2_with (first
    | (go_at_call 109; refine HE.out.mono ?_; rintro e w1 ⟨a, cap, rfl, ho, hb⟩
       have Ho := Lib.hid ho
       have Hb : Hid (Below w.heap.size w w1) := Lib.hid (((Below.refl w.heap.size w).alloc (Nat.le_refl _) _).trans (hb.mono (by omega)))
       clear ho hb)
    | (at_builtin
       refine append_bytes _ rfl (.tmp 24) (.tmp 25) rfl w.heap.size _ 1 1 [UInt8.ofNat q.length] rfl (own_byte w1 w.heap.size _ _ HB.out Hb.out.size) a q.length cap q rfl (row_below Ho.out.row ((Below.refl w1.heap.size w1).alloc (Nat.le_refl _) _) (Nat.le_refl _)) (1 + q.length) rfl (by have := HS.out; omega) (by have := Hb.out.size; simp; omega) ?_
       intro a2 cap2 w2 hown2 hb2
       have Ho2 : Hid (OwnB w2 w.heap.size a2 (1 + q.length) cap2 (M.summed q)) := Lib.hid hown2
       have Hb2 : Hid (Below w.heap.size w w2) := Lib.hid ((Hb.out.alloc Hb.out.size _).trans hb2)
       clear hown2 hb2)
    | (go_at_call 128; refine (K.sum_any _ _ _ (M.ints8 (M.summed q)) _ (k_row Ho2.out.row (by have := HS.out; omega))).mono ?_; rintro e w' ⟨rfl, rfl⟩
       have HSl2 : Hid (sl = M.word (K.M.more 0#32 (M.ints8 (M.summed q))) ++ M.summed q) := Lib.hid HSl.out
       clear HSl
       generalize K.M.more 0#32 (M.ints8 (M.summed q)) = sm at *)
    | (at_builtin
       refine append_bytes _ rfl (.tmp 40) (.tmp 41) rfl w.heap.size _ 4 4 (M.word sm) rfl (own_word w2 w.heap.size sm Hb2.out.size) a2 (1 + q.length) cap2 (M.summed q) rfl (row_below Ho2.out.row ((Below.refl w2.heap.size w2).alloc (Nat.le_refl _) _) (Nat.le_refl _)) (4 + (1 + q.length)) rfl (by have := HS.out; omega) (by have := Hb2.out.size; simp; omega) ?_
       intro a3 cap3 w3 hown3 hb3
       have Ho3 : Hid (OwnB w3 w.heap.size a3 (4 + (1 + q.length)) cap3 (M.word sm ++ M.summed q)) := Lib.hid hown3
       have Hb3 : Hid (Below w.heap.size w w3) := Lib.hid ((Hb2.out.alloc Hb2.out.size _).trans hb3)
       clear hown3 hb3))
  go_ret
  have hl : sl.length = 4 + (1 + q.length) := by have := HLn.out; omega
  refine ⟨a3, cap3, ?_, ?_, Hb3.out⟩
  · rw [hl]; rfl
  · rw [hl, HSl2.out]; exact Ho3.out
end Go.Proofs.YtmcalgnpinolmaaGreat
