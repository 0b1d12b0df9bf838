/-
  Decode of a message.
-/
import Derived.Test.YtpggpgbkeafgnaaMlEnc
import Derived.Lib.ConvBytes
namespace Go.Proofs.Ytpggpgbkeafgnaa.Ml
open Go.RowKit
open C (Row Own i64s strs u8s u8s_length row_below own_below RecAt str)
set_option linter.unusedVariables false
set_option linter.unusedSimpArgs false
set_option maxRecDepth 20000

/-- bytes that a string has become -/
theorem bytes_row (w : World) (s : ByteArray) (hs : s.size ≤ 65536) : Row (Lib.bytesWorld w 5 s) (some ⟨w.heap.size, 0, none⟩) s.size (grownCap w s.size 0 5) (u8s s.data.toList) := by
  have h1 : s.data.toList.length = s.size := C.M.size_list s
  refine ⟨by rw [u8s_length, h1], grownCap_ge w s.size 0 5, grownCap_le_maxLen w s.size 0 5 (by simp only [maxLen]; omega), .inr ⟨w.heap.size, 0, rfl, by rw [Lib.bytesWorld_size]; omega, fun i hi => ?_⟩⟩
  rw [Nat.zero_add, Lib.bytesWorld_cell w 5 s i hi]
  have hi2 : i < s.data.size := hi
  have e : s.data.toList[i]? = some s.data[i] := by rw [Array.getElem?_toList, Array.getElem?_eq_getElem hi2]
  rw [u8s, List.getElem?_map, List.getD_eq_getElem?_getD, e]
  rfl
theorem bytes_below (w : World) (s : ByteArray) : Below w.heap.size w (Lib.bytesWorld w 5 s) :=
  ⟨rfl, rfl, rfl, by rw [Lib.bytesWorld_size]; omega, fun k hk => Lib.bytesWorld_at_old w 5 s k hk⟩
theorem conv_str (w : World) (s : ByteArray) : (convert 9 42 (.string s)).run Try.prog w = .ok (.slice (some ⟨w.heap.size, 0, none⟩) s.size (grownCap w s.size 0 5)) (Lib.bytesWorld w 5 s) :=
  Lib.run_convert_string_bytes w 9 42 5 s Try.underlying9 Try.underlying42 Try.underlying5

theorem ret_msg2 {fn : Func} (hres : fn.results = #[.cell 2 25, .tmp 3]) {R : Ending → World → Prop} {a : Act} {w : World} {g : Nat} {m : Mg} {v : Value} (h2 : a.tmps.getD 2 undef = .pointer (some ⟨g, 0, none⟩)) (h3 : a.tmps.getD 3 undef = v) (hd : a.defers = []) (h : MB w g m)
    (hR : R (.returned (.tuple #[msgV m, v])) w) : bodyPost Try.prog fn R .ret a w := by
  obtain ⟨k0, k1, k2, k3, k4, k5, k6, k7, k8, k9, k10, k11, k12⟩ := h.cells
  simp only [Array.getD_eq_getD_getElem?] at h2 h3
  refine bodyPost_ret_by ?_ hd hR
  simp [results, hres, h2, h3, go_sem, k0, k1, k2, k3, k4, k5, k6, k7, k8, k9, k10, k11, k12, msgV, Mg.cells]

set_option maxHeartbeats 2000000 in
theorem decode_none (w : World) (s : ByteArray) (hs : s.size ≤ 65536) (hd : C.M.dec s.data.toList = none) : Calls Try.prog 13 #[.string s] w fun e w' => e = .returned (.tuple #[msgV nil, .int .i64 4]) ∧ Below w.heap.size w w' := by
  have hD := C.decode_no (Lib.bytesWorld (w.alloc (.cells nil.cells 25)) 5 s) _ _ _ _ (bytes_row (w.alloc (.cells nil.cells 25)) s hs) hd
  rw [show (w.alloc (.cells nil.cells 25)).heap.size = w.heap.size + 1 by simp] at hD
  have kc := conv_str (w.alloc (.cells nil.cells 25)) s
  have HM := Lib.hid (MB.new w nil)
  clear hd hs
  simp only [nil, Mg.cells] at kc hD
  have HD := Lib.hid hD
  clear hD
  go_enter Try.func13, Try.ntmps13
  go_wp2_with (first
    | (go_at_call 20; with_reducible refine HD.out.mono ?_; rintro e1 w1 ⟨rfl, hb⟩
       have HB := Lib.hid ((bytes_below (w.alloc (.cells nil.cells 25)) s).trans (Below.mono hb (bytes_below (w.alloc (.cells nil.cells 25)) s).size))
       have HBX := Lib.hid (HB.out.alloc HB.out.size (.cells #[.int .i64 0, .slice none 0 0, .slice none 0 0] 39))
       have HMX := Lib.hid (HM.out.below HBX.out (by simp))
       obtain ⟨z0, z1, z2, z3, z4, z5, z6, z7, z8, z9, z10, z11, z12⟩ := HMX.out.cells
       have zf := HMX.out.fz
       clear hb))
  exact ret_msg2 (m := nil) Try.results13 rfl rfl rfl (mb_set' HMX.out) ⟨rfl, sets_below (o := 0) (((Below.refl _ _).alloc (Nat.le_refl _) _).trans (HBX.out.mono (by simp))) nil.cells.toList (Nat.le_refl _)⟩

set_option maxHeartbeats 2000000 in
theorem decode_bad (w : World) (s : ByteArray) (hs : s.size ≤ 65536) (r : C.M.Rc) (hd : C.M.dec s.data.toList = some r) (hi : isM r = false) : Calls Try.prog 13 #[.string s] w fun e w' => e = .returned (.tuple #[msgV nil, .int .i64 4]) ∧ Below w.heap.size w w' := by
  have hmay := (C.M.enc_dec hd).1
  have hD := C.decode_ok (Lib.bytesWorld (w.alloc (.cells nil.cells 25)) 5 s) _ _ _ _ r (bytes_row (w.alloc (.cells nil.cells 25)) s hs) hd
  rw [show (w.alloc (.cells nil.cells 25)).heap.size = w.heap.size + 1 by simp] at hD
  have hI : ∀ w' aN nN cN aT nT cT, RecAt w' r aN nN cN aT nT cT → Calls Try.prog 16 #[.agg #[.int .i64 r.kind, .slice aN nN cN, .slice aT nT cT]] w' fun e w'' => e = .returned (.bool false) ∧ Below w'.heap.size w' w'' := fun w' aN nN cN aT nT cT h => by
    have := is_any w' r aN nN cN aT nT cT h (by rw [h.lenN]; have := hmay.2.2.1; omega) (by rw [h.lenT]; have := hmay.2.2.2.1; omega)
    rw [hi] at this
    exact this
  have HI := Lib.hid hI
  have kc := conv_str (w.alloc (.cells nil.cells 25)) s
  have HM := Lib.hid (MB.new w nil)
  clear hd hs hI hi hmay
  simp only [nil, Mg.cells] at kc hD
  have HD := Lib.hid hD
  clear hD
  generalize r.kind = kind at *
  go_enter Try.func13, Try.ntmps13
  go_wp2_with (first
    | (go_at_call 20; with_reducible refine HD.out.mono ?_; rintro e1 w1 ⟨aN, nN, cN, aT, nT, cT, rfl, hr, hb⟩
       have HB := Lib.hid ((bytes_below (w.alloc (.cells nil.cells 25)) s).trans (Below.mono hb (bytes_below (w.alloc (.cells nil.cells 25)) s).size))
       have HA := Lib.hid (hr.at.below ((Below.refl w1.heap.size w1).alloc (Nat.le_refl _) (.cells #[.int .i64 kind, .slice aN nN cN, .slice aT nT cT] 39)) (Nat.le_refl _))
       clear hb hr)
    | (go_at_call 16; with_reducible refine (HI.out _ _ _ _ _ _ _ HA.out).mono ?_; rintro e2 w2 ⟨rfl, hb⟩
       have HBX := Lib.hid ((HB.out.alloc HB.out.size (.cells #[.int .i64 kind, .slice aN nN cN, .slice aT nT cT] 39)).trans (Below.mono hb (HB.out.alloc HB.out.size _).size))
       have HMX := Lib.hid (HM.out.below HBX.out (by simp))
       obtain ⟨z0, z1, z2, z3, z4, z5, z6, z7, z8, z9, z10, z11, z12⟩ := HMX.out.cells
       have zf := HMX.out.fz
       clear hb))
  exact ret_msg2 (m := nil) Try.results13 rfl rfl rfl (mb_set' HMX.out) ⟨rfl, sets_below (o := 0) (((Below.refl _ _).alloc (Nat.le_refl _) _).trans (HBX.out.mono (by simp))) nil.cells.toList (Nat.le_refl _)⟩

theorem decode_no (w : World) (s : ByteArray) (hs : s.size ≤ 65536) (hd : read s.data.toList = none) : Calls Try.prog 13 #[.string s] w fun e w' => e = .returned (.tuple #[msgV nil, .int .i64 4]) ∧ Below w.heap.size w w' := by
  cases h : C.M.dec s.data.toList with
  | none => exact decode_none w s hs h
  | some r =>
    cases hi : isM r with
    | false => exact decode_bad w s hs r h hi
    | true => unfold read at hd; rw [h] at hd; simp [hi] at hd

set_option maxHeartbeats 2000000 in
theorem decode_yes (w : World) (s : ByteArray) (hs : s.size ≤ 65536) (m : Mg) (hd : read s.data.toList = some m) : Calls Try.prog 13 #[.string s] w fun e w' => e = .returned (.tuple #[msgV m, .int .i64 0]) ∧ Below w.heap.size w w' := by
  obtain ⟨hmay, hl⟩ := bytes_read hd
  obtain ⟨hm1, hm2⟩ := may_rec hmay
  have hdec : C.M.dec s.data.toList = some m.rc := by rw [hl]; exact C.M.dec_enc hm1 hm2
  have hD := C.decode_ok (Lib.bytesWorld (w.alloc (.cells nil.cells 25)) 5 s) _ _ _ _ m.rc (bytes_row (w.alloc (.cells nil.cells 25)) s hs) hdec
  rw [show (w.alloc (.cells nil.cells 25)).heap.size = w.heap.size + 1 by simp] at hD
  have hI : ∀ w' aN cN aT cT, RecAt w' m.rc aN 10 cN aT 2 cT → Calls Try.prog 16 #[.agg #[.int .i64 m.rc.kind, .slice aN 10 cN, .slice aT 2 cT]] w' fun e w'' => e = .returned (.bool true) ∧ Below w'.heap.size w' w'' := fun w' aN cN aT cT h => by
    have := is_any w' m.rc aN 10 cN aT 2 cT h (by omega) (by omega)
    rw [show isM m.rc = true from hmay] at this
    exact this
  have hG := fun w' aN cN aT cT h => message_any w' m aN cN aT cT h
  have kc := conv_str (w.alloc (.cells nil.cells 25)) s
  have HM := Lib.hid (MB.new w nil)
  have hlen : ∀ w' aN nN cN aT nT cT, C.RecOwn w' (Lib.bytesWorld (w.alloc (.cells nil.cells 25)) 5 s).heap.size m.rc aN nN cN aT nT cT → nN = 10 ∧ nT = 2 := fun w' aN nN cN aT nT cT h => ⟨by have := h.at.lenN; simpa [Mg.rc, Mg.nums] using this, by have := h.at.lenT; simpa [Mg.rc, Mg.texts] using this⟩
  have HLen := Lib.hid hlen
  clear hd hs hl hmay hm1 hm2 hdec hlen
  have hk : m.rc.kind = m.kind := rfl
  rw [hk] at hD hI
  generalize m.rc = r at *
  obtain ⟨kind, epoch, seq, n, block, client, e, t0, t1, t2, t3, data, row⟩ := m
  simp only [nil, Mg.cells, msgV] at kc hD hI hG
  have HD := Lib.hid hD
  have HI := Lib.hid hI
  have HG := Lib.hid hG
  clear hD hI hG hk
  go_enter Try.func13, Try.ntmps13
  go_wp2_with (first
    | (go_at_call 20; with_reducible refine HD.out.mono ?_; rintro e1 w1 ⟨aN, nN, cN, aT, nT, cT, rfl, hr, hb⟩
       obtain ⟨rfl, rfl⟩ := HLen.out _ _ _ _ _ _ _ hr
       have HB := Lib.hid ((bytes_below (w.alloc (.cells nil.cells 25)) s).trans (Below.mono hb (bytes_below (w.alloc (.cells nil.cells 25)) s).size))
       have HA := Lib.hid (hr.at.below ((Below.refl w1.heap.size w1).alloc (Nat.le_refl _) (.cells #[.int .i64 kind, .slice aN 10 cN, .slice aT 2 cT] 39)) (Nat.le_refl _))
       clear hb hr)
    | (go_at_call 16; with_reducible refine (HI.out _ _ _ _ _ HA.out).mono ?_; rintro e2 w2 ⟨rfl, hb⟩
       have HX : Hid (C.Bx w1 (.cells #[.int .i64 kind, .slice aN 10 cN, .slice aT 2 cT] 39) w2) := Lib.hid ((C.Bx.refl w1 _).next hb (Nat.le_refl _))
       have HA2 := Lib.hid (HA.out.below hb (Nat.le_refl _))
       obtain ⟨c0, c1, c2⟩ := HX.out.cells
       have HB2 := Lib.hid ((HB.out.alloc HB.out.size (.cells #[.int .i64 kind, .slice aN 10 cN, .slice aT 2 cT] 39)).trans (Below.mono hb (HB.out.alloc HB.out.size _).size))
       clear hb)
    | (go_at_call 21; with_reducible refine (HG.out _ _ _ _ _ HA2.out).mono ?_; rintro e3 w3 ⟨rfl, hb⟩
       have HBX := Lib.hid (HB2.out.trans (Below.mono hb HB2.out.size))
       have HMX := Lib.hid (HM.out.below HBX.out (by simp))
       obtain ⟨z0, z1, z2, z3, z4, z5, z6, z7, z8, z9, z10, z11, z12⟩ := HMX.out.cells
       have zf := HMX.out.fz
       clear hb c0 c1 c2))
  exact ret_msg2 (m := ⟨kind, epoch, seq, n, block, client, e, t0, t1, t2, t3, data, row⟩) Try.results13 rfl rfl rfl (mb_set' HMX.out) ⟨rfl, sets_below (o := 0) (((Below.refl _ _).alloc (Nat.le_refl _) _).trans (HBX.out.mono (by simp))) (Mg.cells ⟨kind, epoch, seq, n, block, client, e, t0, t1, t2, t3, data, row⟩).toList (Nat.le_refl _)⟩
end Go.Proofs.Ytpggpgbkeafgnaa.Ml
