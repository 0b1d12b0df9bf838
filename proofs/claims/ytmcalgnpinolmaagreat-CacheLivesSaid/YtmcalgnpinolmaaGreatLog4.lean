/-
  The cell's text, told and read.
-/
import Derived.Test.YtmcalgnpinolmaaGreatLog1
import Derived.Lib.ConvBytes
namespace Go.Proofs.YtmcalgnpinolmaaGreat
open Go.RowKit
set_option linter.unusedVariables false
set_option linter.unusedSimpArgs false
set_option maxRecDepth 20000

theorem rect_at (w : World) (h t l : Int) :
    C.RecAt (w.alloc (.cells #[.int .i64 h, .int .i64 t, .int .i64 l] 2)) (M.recT h t l) (some ⟨w.heap.size, 0, none⟩) 3 3 none 0 0 where
  nums := (C.own_row (C.own_lit 2 w 0 (C.i64s [h, t, l]) (Nat.zero_le _) (by simp [C.i64s]))).1
  texts := ⟨rfl, Nat.le_refl _, by simp [maxLen], .inl rfl⟩

theorem enc_rect (w : World) (h t l : Int) (hi : M.InT h t l) :
    Calls Tryz.prog 109 #[.agg #[.int .i64 3, .slice (some ⟨w.heap.size, 0, none⟩) 3 3, .slice none 0 0]] (w.alloc (.cells #[.int .i64 h, .int .i64 t, .int .i64 l] 2)) fun e w' =>
      ∃ a cap, e = .returned (.tuple #[.slice a (C.M.enc (M.recT h t l)).length cap, .int .i64 0]) ∧ Row w' a (C.M.enc (M.recT h t l)).length cap (u8s (C.M.enc (M.recT h t l))) ∧ Below w.heap.size w w' := by
  obtain ⟨hm, hf⟩ := M.recT_may hi
  refine (C.encode_yes _ (M.recT h t l) _ _ _ _ _ _ (rect_at w h t l) hm hf).mono ?_
  rintro e w' ⟨a, cap, rfl, ho, hb⟩
  exact ⟨a, cap, rfl, (C.own_row ho).1, ((Below.refl w.heap.size w).alloc (Nat.le_refl _) _).trans (hb.mono (by simp))⟩

theorem text_any (w : World) (h t l : Int) (hi : M.InT h t l) :
    Calls Tryz.prog 89 #[.agg #[.int .i64 h, .int .i64 t, .int .i64 l]] w fun e w' => e = .returned (.string (M.txtL h t l)) ∧ Below w.heap.size w w' := by
  have HE := Lib.hid (enc_rect (w.alloc (.cells #[.int .i64 h, .int .i64 t, .int .i64 l] 128)) h t l hi)
  rw [show (w.alloc (.cells #[.int .i64 h, .int .i64 t, .int .i64 l] 128)).heap.size = w.heap.size + 1 by simp] at HE
  have HT : Hid (str (C.M.enc (M.recT h t l)) = M.txtL h t l) := Lib.hid rfl
  clear hi
  generalize C.M.enc (M.recT h t l) = q at *
  go_enter Tryz.func89, Tryz.ntmps89
  go_wp2_with (go_at_call 109; refine HE.out.mono ?_; rintro e w1 ⟨a, cap, rfl, ho, hb⟩
               have Hb : Hid (Below w.heap.size w w1) := Lib.hid (((Below.refl w.heap.size w).alloc (Nat.le_refl _) _).trans (hb.mono (by omega)))
               have kc := conv_row ho
               clear ho hb)
  go_ret
  exact ⟨by rw [← HT.out]; rfl, Hb.out⟩

/-- bytes that a string has become -/
theorem bytes_row (w : World) (s : ByteArray) (hs : s.size ≤ 1000) : Row (Lib.bytesWorld w 5 s) (some ⟨w.heap.size, 0, none⟩) s.size (grownCap w s.size 0 5) (u8s s.data.toList) := by
  have h1 : s.data.toList.length = s.size := C.M.size_list s
  refine ⟨by rw [u8s_length, h1], grownCap_ge w s.size 0 5, grownCap_le_maxLen w s.size 0 5 (by simp only [maxLen]; omega), .inr ⟨w.heap.size, 0, rfl, by rw [Lib.bytesWorld_size]; omega, fun i hi => ?_⟩⟩
  rw [Nat.zero_add, Lib.bytesWorld_cell w 5 s i hi]
  have hi2 : i < s.data.size := hi
  have e : s.data.toList[i]? = some s.data[i] := by rw [Array.getElem?_toList, Array.getElem?_eq_getElem hi2]
  rw [u8s, List.getElem?_map, List.getD_eq_getElem?_getD, e]
  rfl
theorem bytes_below (w : World) (s : ByteArray) : Below w.heap.size w (Lib.bytesWorld w 5 s) :=
  ⟨rfl, rfl, rfl, by rw [Lib.bytesWorld_size]; omega, fun k hk => Lib.bytesWorld_at_old w 5 s k hk⟩
theorem conv_str (w : World) (s : ByteArray) : (convert 9 56 (.string s)).run Tryz.prog w = .ok (.slice (some ⟨w.heap.size, 0, none⟩) s.size (grownCap w s.size 0 5)) (Lib.bytesWorld w 5 s) :=
  Lib.run_convert_string_bytes w 9 56 5 s Tryz.underlying9 Tryz.underlying56 Tryz.underlying5

theorem three {w : World} {b : Nat} (v0 v1 v2 : Value) {u0 u1 u2 : Value} (h0 : w.cell? ⟨b, 0, none⟩ = some u0) (h1 : w.cell? ⟨b, 1, none⟩ = some u1) (h2 : w.cell? ⟨b, 2, none⟩ = some u2) :
    (((w.setCell ⟨b, 0, none⟩ v0).setCell ⟨b, 1, none⟩ v1).setCell ⟨b, 2, none⟩ v2).cell? ⟨b, 0, none⟩ = some v0 ∧ (((w.setCell ⟨b, 0, none⟩ v0).setCell ⟨b, 1, none⟩ v1).setCell ⟨b, 2, none⟩ v2).cell? ⟨b, 1, none⟩ = some v1 ∧
    (((w.setCell ⟨b, 0, none⟩ v0).setCell ⟨b, 1, none⟩ v1).setCell ⟨b, 2, none⟩ v2).cell? ⟨b, 2, none⟩ = some v2 := by
  refine ⟨?_, ?_, ?_⟩
  · rw [World.cell?_setCell_other _ _ _ _ (by simp), World.cell?_setCell_other _ _ _ _ (by simp)]
    exact World.cell?_setCell_same _ _ _ h0
  · rw [World.cell?_setCell_other _ _ _ _ (by simp)]
    exact World.cell?_setCell_same _ _ _ (show _ = some u1 by rw [World.cell?_setCell_other _ _ _ _ (by simp)]; exact h1)
  · exact World.cell?_setCell_same _ _ _ (show _ = some u2 by rw [World.cell?_setCell_other _ _ _ _ (by simp), World.cell?_setCell_other _ _ _ _ (by simp)]; exact h2)

theorem dec_no (w : World) (a : Option Addr) (n cap : Nat) (l : List UInt8) (h : Row w a n cap (u8s l)) (hd : C.M.dec l = none) :
    Calls Tryz.prog 63 #[.slice a n cap] w fun e w' => ∃ er, e = .returned (.tuple #[.agg #[.int .i64 0, .slice none 0 0, .slice none 0 0], .int .i64 er]) ∧ Below w.heap.size w w' := by
  refine (C.decode_any _ _ _ _ _ (c_row h)).mono ?_
  rintro e w2 ⟨hb, ⟨rc, v, hd2, _⟩ | ⟨_, rfl⟩⟩
  · rw [hd] at hd2; cases hd2
  · exact ⟨_, rfl, hb⟩
theorem dec_yes (w : World) (a : Option Addr) (n cap : Nat) (l : List UInt8) (h : Row w a n cap (u8s l)) (r : C.M.Rc) (hd : C.M.dec l = some r) :
    Calls Tryz.prog 63 #[.slice a n cap] w fun e w' => ∃ er aN nN cN aT nT cT, e = .returned (.tuple #[.agg #[.int .i64 r.kind, .slice aN nN cN, .slice aT nT cT], .int .i64 er]) ∧ C.RecOwn w' w.heap.size r aN nN cN aT nT cT ∧ Below w.heap.size w w' := by
  refine (C.decode_any _ _ _ _ _ (c_row h)).mono ?_
  rintro e w2 ⟨hb, ⟨rc, v, hd2, ⟨a1, n1, c1, a2, n2, c2, rfl, ho1, ho2⟩, rfl⟩ | ⟨hd2, _⟩⟩
  · rw [hd] at hd2
    injection hd2 with hd2
    subst hd2
    exact ⟨_, _, _, _, _, _, _, rfl, ⟨ho1, ho2⟩, hb⟩
  · rw [hd] at hd2; cases hd2

theorem dec_state (w : World) (a : Option Addr) (n cap : Nat) (l : List UInt8) (hr : Row w a n cap (u8s l)) (h t q : Int) (hd : C.M.dec l = some (M.recT h t q)) :
    Calls Tryz.prog 63 #[.slice a n cap] w fun e w' => ∃ er bN cN aT cT, e = .returned (.tuple #[.agg #[.int .i64 3, .slice (some ⟨bN, 0, none⟩) 3 cN, .slice aT 0 cT], .int .i64 er]) ∧ bN < w'.heap.size ∧
      w'.cell? ⟨bN, 0, none⟩ = some (.int .i64 h) ∧ w'.cell? ⟨bN, 1, none⟩ = some (.int .i64 t) ∧ w'.cell? ⟨bN, 2, none⟩ = some (.int .i64 q) ∧ Below w.heap.size w w' := by
  refine (dec_yes w a n cap l hr _ hd).mono ?_
  rintro e w2 ⟨er, aN, nN, cN, aT, nT, cT, rfl, ho, hb⟩
  have hN : nN = 3 := ho.at.lenN
  have hT : nT = 0 := ho.at.lenT
  subst hN hT
  obtain ⟨bN, oN, g0, eN, l0, q0, n0⟩ := C.row_i64 ho.at.nums 0 (by omega)
  obtain ⟨bN', oN', g1, eN', l1, q1, n1⟩ := C.row_i64 ho.at.nums 1 (by omega)
  obtain ⟨bN2, oN2, g2, eN2, l2, q2, n2⟩ := C.row_i64 ho.at.nums 2 (by omega)
  obtain ⟨_, rfl⟩ := (C.own_row ho.nums).2 _ _ eN
  subst eN
  injection eN' with eN'
  injection eN' with e1 e2 _
  subst e1 e2
  injection eN2 with eN2
  injection eN2 with e1 e2 _
  subst e1 e2
  simp [M.recT] at q0 q1 q2
  subst q0 q1 q2
  exact ⟨er, bN, cN, aT, cT, rfl, l0, n0, n1, n2, hb⟩

set_option maxHeartbeats 1000000 in
/-- a text that is none: a new log's state -/
theorem readState_no (w : World) (s : ByteArray) (hs : s.size ≤ 1000) (hd : C.M.dec s.data.toList = none) :
    Calls Tryz.prog 59 #[.string s] w fun e w' => e = .returned (.agg #[.int .i64 1, .int .i64 0, .int .i64 0]) ∧ Below w.heap.size w w' := by
  have kc := conv_str (w.alloc (.cells #[.int .i64 0, .int .i64 0, .int .i64 0] 128)) s
  have HD := Lib.hid (dec_no _ _ _ _ _ (bytes_row (w.alloc (.cells #[.int .i64 0, .int .i64 0, .int .i64 0] 128)) s hs) hd)
  have HB : Hid (Below w.heap.size w (Lib.bytesWorld (w.alloc (.cells #[.int .i64 0, .int .i64 0, .int .i64 0] 128)) 5 s)) := Lib.hid (((Below.refl _ _).alloc (Nat.le_refl _) _).trans ((bytes_below _ s).mono (by simp)))
  have hc0 : (Lib.bytesWorld (w.alloc (.cells #[.int .i64 0, .int .i64 0, .int .i64 0] 128)) 5 s).heap[w.heap.size]? = some (.cells #[.int .i64 0, .int .i64 0, .int .i64 0] 128 (0, 0)) := by
    rw [Lib.bytesWorld_at_old _ 5 s _ (by simp)]; exact heap_alloc_new w _
  have HC := Lib.hid hc0
  rw [show (w.alloc (.cells #[.int .i64 0, .int .i64 0, .int .i64 0] 128)).heap.size = w.heap.size + 1 by simp] at HD kc
  generalize grownCap (w.alloc (.cells #[.int .i64 0, .int .i64 0, .int .i64 0] 128)) s.size 0 5 = cp at *
  generalize Lib.bytesWorld (w.alloc (.cells #[.int .i64 0, .int .i64 0, .int .i64 0] 128)) 5 s = w1 at *
  clear hs hd hc0
  go_enter Tryz.func59, Tryz.ntmps59
  go_wp2_with (go_at_call 63; refine HD.out.mono ?_; rintro e w2 ⟨er, rfl, hb⟩
               have HB2 := Lib.hid (HB.out.trans (hb.mono HB.out.size))
               have HC2 : Hid (w2.heap[w.heap.size]? = _) := Lib.hid ((hb.block _ (by have := HB.out.size; have := lt_of_heap HC.out; omega)).trans HC.out)
               have hlt : w.heap.size < w2.heap.size := lt_of_heap HC2.out
               have m0 : (w2.alloc (.cells #[.int .i64 0, .slice none 0 0, .slice none 0 0] 141)).cell? ⟨w.heap.size, 0, none⟩ = some (.int .i64 0) := by rw [World.cell?_alloc_lt _ _ _ hlt]; simp [World.cell?, HC2.out]
               have m1 : (w2.alloc (.cells #[.int .i64 0, .slice none 0 0, .slice none 0 0] 141)).cell? ⟨w.heap.size, 1, none⟩ = some (.int .i64 0) := by rw [World.cell?_alloc_lt _ _ _ hlt]; simp [World.cell?, HC2.out]
               have m2 : (w2.alloc (.cells #[.int .i64 0, .slice none 0 0, .slice none 0 0] 141)).cell? ⟨w.heap.size, 2, none⟩ = some (.int .i64 0) := by rw [World.cell?_alloc_lt _ _ _ hlt]; simp [World.cell?, HC2.out]
               have f0 : ∀ o, (w2.alloc (.cells #[.int .i64 0, .slice none 0 0, .slice none 0 0] 141)).frozen? ⟨w.heap.size, o, none⟩ = false := fun o => by
                 rw [World.frozen?_of_block (w := w2) (a := ⟨w.heap.size, o, none⟩) (Below.heap_alloc _ _ _ hlt)]; simp [World.frozen?, HC2.out]
               clear hb hlt)
  obtain ⟨k0, k1, k2⟩ := three (.int .i64 1) (.int .i64 0) (.int .i64 0) m0 m1 m2
  refine bodyPost_ret_by (v := .agg #[.int .i64 1, .int .i64 0, .int .i64 0]) ?_ rfl ⟨rfl, (((HB2.out.alloc HB2.out.size _).setCell (Nat.le_refl _) _).setCell (Nat.le_refl _) _).setCell (Nat.le_refl _) _⟩
  generalize ((((w2.alloc (.cells #[.int .i64 0, .slice none 0 0, .slice none 0 0] 141)).setCell ⟨w.heap.size, 0, none⟩ (.int .i64 1)).setCell ⟨w.heap.size, 1, none⟩ (.int .i64 0)).setCell ⟨w.heap.size, 2, none⟩ (.int .i64 0)) = w3 at *
  simp [results, Tryz.results59, go_sem, k0, k1, k2]

set_option maxHeartbeats 2000000 in
/-- a text that is a state's -/
theorem readState_yes (w : World) (h t l : Int) (hi : M.InT h t l) :
    Calls Tryz.prog 59 #[.string (M.txtL h t l)] w fun e w' => e = .returned (.agg #[.int .i64 h, .int .i64 t, .int .i64 l]) ∧ Below w.heap.size w w' := by
  have hs := M.txtL_size h t l
  have hd : C.M.dec (M.txtL h t l).data.toList = some (M.recT h t l) := C.M.dec_enc (M.recT_may hi).1 (M.recT_may hi).2
  generalize M.txtL h t l = s at *
  have kc := conv_str (w.alloc (.cells #[.int .i64 0, .int .i64 0, .int .i64 0] 128)) s
  have HD := Lib.hid (dec_state _ _ _ _ _ (bytes_row (w.alloc (.cells #[.int .i64 0, .int .i64 0, .int .i64 0] 128)) s (by omega)) h t l hd)
  have HB : Hid (Below w.heap.size w (Lib.bytesWorld (w.alloc (.cells #[.int .i64 0, .int .i64 0, .int .i64 0] 128)) 5 s)) := Lib.hid (((Below.refl _ _).alloc (Nat.le_refl _) _).trans ((bytes_below _ s).mono (by simp)))
  have hc0 : (Lib.bytesWorld (w.alloc (.cells #[.int .i64 0, .int .i64 0, .int .i64 0] 128)) 5 s).heap[w.heap.size]? = some (.cells #[.int .i64 0, .int .i64 0, .int .i64 0] 128 (0, 0)) := by
    rw [Lib.bytesWorld_at_old _ 5 s _ (by simp)]; exact heap_alloc_new w _
  have HC := Lib.hid hc0
  rw [show (w.alloc (.cells #[.int .i64 0, .int .i64 0, .int .i64 0] 128)).heap.size = w.heap.size + 1 by simp] at HD kc
  generalize grownCap (w.alloc (.cells #[.int .i64 0, .int .i64 0, .int .i64 0] 128)) s.size 0 5 = cp at *
  generalize Lib.bytesWorld (w.alloc (.cells #[.int .i64 0, .int .i64 0, .int .i64 0] 128)) 5 s = w1 at *
  have W1 : Hid (∀ w', Calls Tryz.prog 84 #[.int .i64 h, .int .i64 1] w' fun e w'' => e = .returned (.bool true) ∧ w' = w'') := Lib.hid fun w' => by
    have := within_any w' h 1
    rwa [decide_eq_true (show 1 ≤ h ∧ h ≤ 4611686018427387904 from hi.1)] at this
  have W2 : Hid (∀ w', Calls Tryz.prog 84 #[.int .i64 t, .int .i64 0] w' fun e w'' => e = .returned (.bool true) ∧ w' = w'') := Lib.hid fun w' => by
    have := within_any w' t 0
    rwa [decide_eq_true (show 0 ≤ t ∧ t ≤ 4611686018427387904 from hi.2.1)] at this
  have W3 : Hid (∀ w', Calls Tryz.prog 84 #[.int .i64 l, .int .i64 0] w' fun e w'' => e = .returned (.bool true) ∧ w' = w'') := Lib.hid fun w' => by
    have := within_any w' l 0
    rwa [decide_eq_true (show 0 ≤ l ∧ l ≤ 4611686018427387904 from hi.2.2)] at this
  clear hs hd hc0 hi
  go_enter Tryz.func59, Tryz.ntmps59
  go_wp2_with fail
  refine HD.out.mono ?_
  rintro e w2 ⟨er, bN, cN, aT, cT, rfl, l0, n0, n1, n2, hb⟩
  have HB2 := Lib.hid (HB.out.trans (hb.mono HB.out.size))
  have HC2 : Hid (w2.heap[w.heap.size]? = _) := Lib.hid ((hb.block _ (by have := HB.out.size; have := lt_of_heap HC.out; omega)).trans HC.out)
  have hlt : w.heap.size < w2.heap.size := lt_of_heap HC2.out
  have m0 : (w2.alloc (.cells #[.int .i64 3, .slice (some ⟨bN, 0, none⟩) 3 cN, .slice aT 0 cT] 141)).cell? ⟨w.heap.size, 0, none⟩ = some (.int .i64 0) := by rw [World.cell?_alloc_lt _ _ _ hlt]; simp [World.cell?, HC2.out]
  have m1 : (w2.alloc (.cells #[.int .i64 3, .slice (some ⟨bN, 0, none⟩) 3 cN, .slice aT 0 cT] 141)).cell? ⟨w.heap.size, 1, none⟩ = some (.int .i64 0) := by rw [World.cell?_alloc_lt _ _ _ hlt]; simp [World.cell?, HC2.out]
  have m2 : (w2.alloc (.cells #[.int .i64 3, .slice (some ⟨bN, 0, none⟩) 3 cN, .slice aT 0 cT] 141)).cell? ⟨w.heap.size, 2, none⟩ = some (.int .i64 0) := by rw [World.cell?_alloc_lt _ _ _ hlt]; simp [World.cell?, HC2.out]
  have f0 : ∀ o, (w2.alloc (.cells #[.int .i64 3, .slice (some ⟨bN, 0, none⟩) 3 cN, .slice aT 0 cT] 141)).frozen? ⟨w.heap.size, o, none⟩ = false := fun o => by
    rw [World.frozen?_of_block (w := w2) (a := ⟨w.heap.size, o, none⟩) (Below.heap_alloc _ _ _ hlt)]; simp [World.frozen?, HC2.out]
  have j0 : (w2.alloc (.cells #[.int .i64 3, .slice (some ⟨bN, 0, none⟩) 3 cN, .slice aT 0 cT] 141)).cell? ⟨bN, 0, none⟩ = some (.int .i64 h) := by rw [World.cell?_alloc_lt _ _ _ l0]; exact n0
  have j1 : (w2.alloc (.cells #[.int .i64 3, .slice (some ⟨bN, 0, none⟩) 3 cN, .slice aT 0 cT] 141)).cell? ⟨bN, 1, none⟩ = some (.int .i64 t) := by rw [World.cell?_alloc_lt _ _ _ l0]; exact n1
  have j2 : (w2.alloc (.cells #[.int .i64 3, .slice (some ⟨bN, 0, none⟩) 3 cN, .slice aT 0 cT] 141)).cell? ⟨bN, 2, none⟩ = some (.int .i64 l) := by rw [World.cell?_alloc_lt _ _ _ l0]; exact n2
  clear hb hlt l0 n0 n1 n2
  have HM0 := Lib.hid m0
  have HM1 := Lib.hid m1
  have HM2 := Lib.hid m2
  go_wp2_with (first
    | (go_at_call 84; with_reducible refine (W1.out _).mono ?_; rintro e w' ⟨rfl, rfl⟩)
    | (go_at_call 84; with_reducible refine (W2.out _).mono ?_; rintro e w' ⟨rfl, rfl⟩)
    | (go_at_call 84; with_reducible refine (W3.out _).mono ?_; rintro e w' ⟨rfl, rfl⟩))
  go_region
  go_wp2
  obtain ⟨k0, k1, k2⟩ := three (.int .i64 h) (.int .i64 t) (.int .i64 l) HM0.out HM1.out HM2.out
  refine bodyPost_ret_by (v := .agg #[.int .i64 h, .int .i64 t, .int .i64 l]) ?_ rfl ⟨rfl, ((((HB2.out.alloc HB2.out.size _).setCell (Nat.le_refl _) _).setCell (Nat.le_refl _) _).setCell (Nat.le_refl _) _).drew⟩
  generalize ((((w2.alloc (.cells #[.int .i64 3, .slice (some ⟨bN, 0, none⟩) 3 cN, .slice aT 0 cT] 141)).setCell ⟨w.heap.size, 0, none⟩ (.int .i64 h)).setCell ⟨w.heap.size, 1, none⟩ (.int .i64 t)).setCell ⟨w.heap.size, 2, none⟩ (.int .i64 l)) = w3 at *
  simp [results, Tryz.results59, go_sem, k0, k1, k2]
end Go.Proofs.YtmcalgnpinolmaaGreat
