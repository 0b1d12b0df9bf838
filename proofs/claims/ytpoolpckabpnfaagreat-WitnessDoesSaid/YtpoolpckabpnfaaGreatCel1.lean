/-
  What a slot may have, and its bytes, as the code tells them.
-/
import Derived.Test.YtpoolpckabpnfaaGreatBrid
import Derived.Deep.QuietTactic
import Derived.BigQuiet
namespace Go.Proofs.YtpoolpckabpnfaaGreat
open Go.RowKit
set_option linter.unusedVariables false
set_option linter.unusedSimpArgs false
set_option maxRecDepth 20000

instance (g : Int) (t : ByteArray) : Decidable (M.MayS g t) := by unfold M.MayS; infer_instance

theorem may_any (w : World) (g : Int) (t : ByteArray) :
    Calls Tryz.prog 70 #[.int .i64 g, .string t] w fun e w' => e = .returned (.bool (decide (M.MayS g t))) ∧ w = w' := by
  by_cases h1 : 1 ≤ g
  · by_cases h2 : g ≤ 4611686018427387904
    · by_cases h3 : t.size ≤ 100
      · have e : decide (M.MayS g t) = true := decide_eq_true ⟨h1, h2, h3⟩
        rw [e]
        have h3' : (t.size : Int) ≤ 100 := by omega
        clear e h3
        go_enter Tryz.func70, Tryz.ntmps70
        go_wp2
        go_ret
        exact ⟨rfl, rfl⟩
      · have e : decide (M.MayS g t) = false := decide_eq_false fun h => h3 h.2.2
        rw [e]
        have h3' : ¬ (t.size : Int) ≤ 100 := by omega
        clear e h3
        go_enter Tryz.func70, Tryz.ntmps70
        go_wp2
        go_ret
        exact ⟨rfl, rfl⟩
    · have e : decide (M.MayS g t) = false := decide_eq_false fun h => h2 h.2.1
      rw [e]
      clear e
      go_enter Tryz.func70, Tryz.ntmps70
      go_wp2
      go_ret
      exact ⟨rfl, rfl⟩
  · have e : decide (M.MayS g t) = false := decide_eq_false fun h => h1 h.1
    rw [e]
    clear e
    go_enter Tryz.func70, Tryz.ntmps70
    go_wp2
    go_ret
    exact ⟨rfl, rfl⟩

theorem slot_no (w : World) (g : Int) (t : ByteArray) (h : ¬ M.MayS g t) :
    Calls Tryz.prog 104 #[.int .i64 g, .string t] w fun e w' => e = .returned (.slice none 0 0) ∧ w = w' := by
  have HM := Lib.hid (may_any w g t)
  rw [decide_eq_false h] at HM
  clear h
  go_enter Tryz.func104, Tryz.ntmps104
  go_wp2_with (go_at_call 70; refine HM.out.mono ?_; rintro e w' ⟨rfl, rfl⟩)
  go_ret
  exact ⟨rfl, rfl⟩

theorem own_byte (w : World) (B : Nat) (x : Int) (c : UInt8) (hx : x = (c.toNat : Int)) (hB : B ≤ w.heap.size) : OwnB (w.alloc (.cells #[.int .u8 x] 5)) B (some ⟨w.heap.size, 0, none⟩) 1 1 [c] := by
  subst hx
  exact own_lit8 w B [c] hB (by simp)

theorem enc_slot (w : World) (g : Int) (t : ByteArray) (h : M.MayS g t) :
    Calls Tryz.prog 89 #[.agg #[.int .i64 1, .slice (some ⟨w.heap.size, 0, none⟩) 1 1, .slice (some ⟨w.heap.size + 1, 0, none⟩) 1 1]] ((w.alloc (.cells #[.int .i64 g] 2)).alloc (.cells #[.string t] 9)) fun e w' =>
      ∃ a cap, e = .returned (.tuple #[.slice a (C.M.enc (M.recS g t)).length cap, .int .i64 0]) ∧ OwnB w' (w.heap.size + 2) a (C.M.enc (M.recS g t)).length cap (C.M.enc (M.recS g t)) ∧ Below w.heap.size w w' := by
  obtain ⟨hm, hf⟩ := M.recS_may h
  refine (C.encode_yes _ (M.recS g t) _ _ _ _ _ _ (recs_at w g t) hm hf).mono ?_
  rintro e w' ⟨a, cap, rfl, ho, hb⟩
  have hs : ((w.alloc (.cells #[.int .i64 g] 2)).alloc (.cells #[.string t] 9)).heap.size = w.heap.size + 2 := by simp
  rw [hs] at ho hb
  exact ⟨a, cap, rfl, ho, (((Below.refl w.heap.size w).alloc (Nat.le_refl _) _).alloc (by simp) _).trans (hb.mono (by omega))⟩

theorem own_word (w : World) (B : Nat) (s : BitVec 32) (hB : B ≤ w.heap.size) :
    OwnB (w.alloc (.cells #[.int .u8 ((s.toNat : Int) / 16777216), .int .u8 ((s.toNat : Int) / 65536 % 256), .int .u8 ((s.toNat : Int) / 256 % 256), .int .u8 ((s.toNat : Int) % 256)] 5)) B (some ⟨w.heap.size, 0, none⟩) 4 4 (M.word s) := by
  have hb : s.toNat < 4294967296 := s.isLt
  have hu : u8s (M.word s) = [.int .u8 ((s.toNat : Int) / 16777216), .int .u8 ((s.toNat : Int) / 65536 % 256), .int .u8 ((s.toNat : Int) / 256 % 256), .int .u8 ((s.toNat : Int) % 256)] := by
    simp only [u8s, M.word, List.map_cons, List.map_nil, u8, UInt8.toNat_ofNat']
    congr 1
    · congr 1; omega
  have := own_lit8 w B (M.word s) hB (by simp [M.word])
  rw [hu] at this
  exact this

set_option maxHeartbeats 1000000 in
theorem slot_yes (w : World) (g : Int) (t : ByteArray) (h : M.MayS g t) :
    Calls Tryz.prog 104 #[.int .i64 g, .string t] w fun e w' => ∃ a cap, e = .returned (.slice a (M.slot g t).length cap) ∧ OwnB w' w.heap.size a (M.slot g t).length cap (M.slot g t) ∧ Below w.heap.size w w' := by
  have HM := Lib.hid (may_any w g t)
  rw [decide_eq_true h] at HM
  have HE := Lib.hid (enc_slot w g t h)
  have hsm := M.enc_small h
  have hlenI : ((C.M.enc (M.recS g t)).length : Int) ≤ 113 := by omega
  have HS := Lib.hid hsm
  have HB : Hid (((C.M.enc (M.recS g t)).length : Int) = (((UInt8.ofNat (C.M.enc (M.recS g t)).length).toNat : Nat) : Int)) := Lib.hid (by rw [C.M.toNat_ofNat (by omega)])
  have HSl : Hid (M.slot g t = M.word (M.sumB (M.summed (C.M.enc (M.recS g t)))) ++ M.summed (C.M.enc (M.recS g t))) := Lib.hid rfl
  have HLn := Lib.hid (M.slot_len g t)
  generalize M.slot g t = sl at *
  clear h hsm
  generalize C.M.enc (M.recS g t) = r at *
  go_enter Tryz.func104, Tryz.ntmps104
  go_wp2_with (first
    | (go_at_call 70; refine HM.out.mono ?_; rintro e w' ⟨rfl, rfl⟩)
    | (go_at_call 89; refine HE.out.mono ?_; rintro e w1 ⟨a, cap, rfl, ho, hb⟩
       have Ho := Lib.hid ho
       have Hb := Lib.hid hb
       clear ho hb)
    | (at_builtin
       refine append_bytes _ rfl (.tmp 25) (.tmp 26) rfl w.heap.size _ 1 1 [UInt8.ofNat r.length] rfl (own_byte w1 w.heap.size _ _ HB.out Hb.out.size) a r.length cap r rfl (row_below Ho.out.row ((Below.refl w1.heap.size w1).alloc (Nat.le_refl _) _) (Nat.le_refl _)) (1 + r.length) rfl (by have := HS.out; omega) (by have := Hb.out.size; simp; omega) ?_
       intro a2 cap2 w2 hown2 hb2
       have Ho2 : Hid (OwnB w2 w.heap.size a2 (1 + r.length) cap2 (M.summed r)) := Lib.hid hown2
       have Hb2 : Hid (Below w.heap.size w w2) := Lib.hid ((Hb.out.alloc Hb.out.size _).trans hb2)
       clear hown2 hb2)
    | (go_at_call 87; refine (K.sum_any _ _ _ (M.ints8 (M.summed r)) _ (k_row Ho2.out.row (by have := HS.out; omega))).mono ?_; rintro e w' ⟨rfl, rfl⟩
       have HSl2 : Hid (sl = M.word (K.M.more 0#32 (M.ints8 (M.summed r))) ++ M.summed r) := Lib.hid HSl.out
       clear HSl
       generalize K.M.more 0#32 (M.ints8 (M.summed r)) = sm at *)
    | (at_builtin
       refine append_bytes _ rfl (.tmp 41) (.tmp 42) rfl w.heap.size _ 4 4 (M.word sm) rfl (own_word w2 w.heap.size sm Hb2.out.size) a2 (1 + r.length) cap2 (M.summed r) rfl (row_below Ho2.out.row ((Below.refl w2.heap.size w2).alloc (Nat.le_refl _) _) (Nat.le_refl _)) (4 + (1 + r.length)) rfl (by have := HS.out; omega) (by have := Hb2.out.size; simp; omega) ?_
       intro a3 cap3 w3 hown3 hb3
       have Ho3 : Hid (OwnB w3 w.heap.size a3 (4 + (1 + r.length)) cap3 (M.word sm ++ M.summed r)) := Lib.hid hown3
       have Hb3 : Hid (Below w.heap.size w w3) := Lib.hid ((Hb2.out.alloc Hb2.out.size _).trans hb3)
       clear hown3 hb3))
  go_ret
  have hl : sl.length = 4 + (1 + r.length) := by have := HLn.out; omega
  refine ⟨a3, cap3, ?_, ?_, Hb3.out⟩
  · rw [hl]; rfl
  · rw [hl, HSl2.out]; exact Ho3.out
end Go.Proofs.YtpoolpckabpnfaaGreat
