/-
  What the document's own Read and Pending tell of its device in memory.
-/
import Derived.Test.YtbcblcnnffdjdaaRef2
import Derived.Test.YtbcblcnnffdjdaaPend
import Derived.Test.YtbcblcnnffdjdaaDev3
namespace Go.Proofs.Ytbcblcnnffdjdaa
open Go.RowKit Go.Maps
set_option linter.unusedVariables false
set_option linter.unusedSimpArgs false
set_option maxRecDepth 20000

variable {rB LB n : Nat} {d : M.Dv}

theorem RefAt.below {w w' : World} {B : Nat} (h : RefAt w rB LB n d) (hb : Below B w w') (h1 : rB < B) (h2 : LB < B) : RefAt w' rB LB n d := h.of_blocks (hb.block _ h1) (hb.block _ h2) hb.size

theorem rread_no (w : World) (h : RefAt w rB LB n d) (i : Int) (hi1 : -9223372036854775808 ≤ i) (hi2 : i ≤ 9223372036854775807) (hr : M.reach n d i ≠ 0) :
    Calls Try.prog 25 #[.pointer (some ⟨rB, 0, none⟩), .int .i64 i] w fun e w' => e = .returned (.tuple #[.slice none 0 0, .int .i64 (M.reach n d i)]) ∧ w = w' := by
  have hdead := h.dead
  have hsec := h.sec
  have h512 := h.n512
  cases hd : d.dead with
  | true =>
    have e1 : M.reach n d i = 30 := by unfold M.reach; rw [hd]; rfl
    rw [e1]
    rw [hd] at hdead
    clear e1 hd h hr
    go_enter Try.func25, Try.ntmps25
    go_wp2
    go_ret2
    exact ⟨rfl, rfl⟩
  | false =>
    rw [hd] at hdead
    by_cases c1 : i < 0
    · have e1 : M.reach n d i = 2 := by unfold M.reach; rw [hd, if_neg (by simp), if_pos (.inl c1)]
      rw [e1]
      clear e1 hd h hr
      go_enter Try.func25, Try.ntmps25
      go_wp2
      go_ret2
      exact ⟨rfl, rfl⟩
    · have c1' : 0 ≤ i := by omega
      by_cases c2 : (n : Int) ≤ i
      · have e1 : M.reach n d i = 2 := by unfold M.reach; rw [hd, if_neg (by simp), if_pos (.inr c2)]
        rw [e1]
        clear e1 hd h hr c1
        go_enter Try.func25, Try.ntmps25
        go_wp2
        go_ret2
        exact ⟨rfl, rfl⟩
      · exact absurd (by unfold M.reach; rw [hd, if_neg (by simp), if_neg (by omega)]) hr

theorem u8s_take {s : List UInt8} {k : Nat} {c : UInt8} (h : s[k]? = some c) : u8s (s.take (k + 1)) = u8s (s.take k) ++ [.int .u8 (c.toNat : Int)] := by
  obtain ⟨hk, rfl⟩ := List.getElem?_eq_some_iff.1 h
  rw [List.take_add_one, List.getElem?_eq_getElem hk, Option.toList_some]
  unfold u8s
  rw [List.map_append]
  rfl

set_option maxHeartbeats 2000000 in
theorem rread_yes (w : World) (h : RefAt w rB LB n d) (i : Nat) (hr : M.reach n d i = 0) :
    Calls Try.prog 25 #[.pointer (some ⟨rB, 0, none⟩), .int .i64 i] w fun e w' => ∃ a cap, e = .returned (.tuple #[.slice a 144 cap, .int .i64 0]) ∧ Row w' a 144 cap (u8s (M.seen d i)) ∧ Below w.heap.size w w' := by
  obtain ⟨b1, b2, b3⟩ := reach_bounds hr
  have hdead := h.dead
  have hsec := h.sec
  have h512 := h.n512
  have hin : i < n := by omega
  have Hin := Lib.hid hin
  rw [b3] at hdead
  have HD := Lib.hid h
  have HL : Hid (rB < w.heap.size ∧ LB < w.heap.size) := Lib.hid ⟨h.ltR, h.lt⟩
  have Hsl : Hid ((M.seen d i).length = 144) := Lib.hid (M.sure_len h.wf i)
  have hi0 : (0 : Int) ≤ (i : Int) := by omega
  have hi1 : (i : Int) < (n : Int) := by omega
  have hi2 : ¬ ((n : Int) ≤ (i : Int)) := by omega
  clear hr h b1 b2 b3 hin
  go_enter Try.func25, Try.ntmps25
  go_wp2_with fail
  have HO := Lib.hid (own_lit 5 w w.heap.size [] (Nat.le_refl _) (by simp))
  have HD1 := Lib.hid (HD.out.alloc (.cells #[] 5))
  have HB1 := Lib.hid ((Below.refl w.heap.size w).alloc (Nat.le_refl _) (.cells #[] 5))
  go_loopw [6, 7] (fun t u wr => ∃ (k : Nat) (A : Option Addr) (cap : Nat), k ≤ 144 ∧ u = .int .i64 k ∧ t = .slice A k cap ∧ RefAt wr rB LB n d ∧ Below w.heap.size w wr ∧ Own 5 wr w.heap.size A k cap (u8s ((M.seen d i).take k))) (fun _ u _ => 144 - (intOf u).toNat)
  case atStart => exact ⟨0, _, _, by omega, rfl, rfl, HD1.out, HB1.out, HO.out⟩
  case round =>
    obtain ⟨k, A, cap, hk, rfl, rfl, hdv, hbw, how⟩ := hrel
    have HDv := Lib.hid hdv
    have HBw := Lib.hid hbw
    have HOw := Lib.hid how
    have hsec3 := hdv.sec
    have his := (hdv.secs i Hin.out).is
    clear hdv hbw how HD1 HB1 HO
    have hk0 : (0 : Int) ≤ (k : Int) := by omega
    by_cases hke : k = 144
    · subst hke
      try rw [show ((144 : Nat) : Int) = 144 from rfl]
      go_wp2_with fail
      go_ret2
      have := HOw.out.row.1
      rw [List.take_of_length_le (by rw [Hsl.out]; omega)] at this
      exact ⟨_, _, rfl, this, HBw.out⟩
    · have hlt : (k : Int) < 144 := by omega
      have hkz : k < 144 := by omega
      clear hke
      obtain ⟨c0, hc0⟩ : ∃ c0, (M.seen d i)[k]? = some c0 := ⟨_, List.getElem?_eq_getElem (by rw [Hsl.out]; exact hkz)⟩
      have HS := Lib.hid (u8s_take hc0)
      cases hp : d.P (i : Int) with
      | some s =>
        rw [hp] at his
        have hby : wr.cell? ⟨LB, i * 289 + 144 + k, none⟩ = some (.int .u8 (c0.toNat : Int)) := by
          obtain ⟨x, hx, hrx, he⟩ := (HDv.out.secs i Hin.out).p
          obtain rfl := he s hp
          have : M.seen d i = x := by unfold M.seen; rw [hp]; rfl
          rw [this] at hc0
          exact hrx k _ (by simp [u8s, u8, hc0])
        clear hp hc0
        simp only [Option.isSome_some] at his
        have HO6 := Lib.hid (HOw.out.but ((But.refl [] wr).alloc (.cells #[.int .u8 (c0.toNat : Int)] 5)) (by simp))
        have HD6 := Lib.hid (HDv.out.alloc (.cells #[.int .u8 (c0.toNat : Int)] 5))
        have HB6 := Lib.hid (HBw.out.alloc HBw.out.size (.cells #[.int .u8 (c0.toNat : Int)] 5))
        have HR6 := Lib.hid (row_one wr 5 (.int .u8 (c0.toNat : Int)))
        go_wp2_with (refine wpList_append_one rfl (.tmp 36) (.tmp 47) 28 5 rfl (.int .u8 0) 1 Try.underlying28 u8_info rfl (by omega) w.heap.size A k cap (u8s ((M.seen d i).take k)) rfl HO6.out wr.heap.size 1 (.int .u8 (c0.toNat : Int)) rfl HR6.out rfl (by omega) HB6.out.size ?_
                     intro a8 cap8 w8 hown8 hgr8 hb8
                     have HO8 := Lib.hid hown8
                     have HD8 := Lib.hid (HD6.out.below hb8 HL.out.1 HL.out.2)
                     have HB8 := Lib.hid (HB6.out.trans hb8)
                     clear hown8 hgr8 hb8)
        go_roundw
        case rel => exact ⟨k + 1, _, _, by omega, by go_num, rfl, HD8.out, HB8.out, by rw [HS.out]; exact HO8.out⟩
        case measure => simp [intOf]; omega
      | none =>
        rw [hp] at his
        have hby : wr.cell? ⟨LB, i * 289 + k, none⟩ = some (.int .u8 (c0.toNat : Int)) := by
          have : M.seen d i = d.S i := by unfold M.seen; rw [hp]; rfl
          rw [this] at hc0
          exact (HDv.out.secs i Hin.out).b k _ (by simp [u8s, u8, hc0])
        clear hp hc0
        simp only [Option.isSome_none] at his
        have HO6 := Lib.hid (HOw.out.but ((But.refl [] wr).alloc (.cells #[.int .u8 (c0.toNat : Int)] 5)) (by simp))
        have HD6 := Lib.hid (HDv.out.alloc (.cells #[.int .u8 (c0.toNat : Int)] 5))
        have HB6 := Lib.hid (HBw.out.alloc HBw.out.size (.cells #[.int .u8 (c0.toNat : Int)] 5))
        have HR6 := Lib.hid (row_one wr 5 (.int .u8 (c0.toNat : Int)))
        go_wp2_with (refine wpList_append_one rfl (.tmp 49) (.tmp 60) 28 5 rfl (.int .u8 0) 1 Try.underlying28 u8_info rfl (by omega) w.heap.size A k cap (u8s ((M.seen d i).take k)) rfl HO6.out wr.heap.size 1 (.int .u8 (c0.toNat : Int)) rfl HR6.out rfl (by omega) HB6.out.size ?_
                     intro a8 cap8 w8 hown8 hgr8 hb8
                     have HO8 := Lib.hid hown8
                     have HD8 := Lib.hid (HD6.out.below hb8 HL.out.1 HL.out.2)
                     have HB8 := Lib.hid (HB6.out.trans hb8)
                     clear hown8 hgr8 hb8)
        go_roundw
        case rel => exact ⟨k + 1, _, _, by omega, by go_num, rfl, HD8.out, HB8.out, by rw [HS.out]; exact HO8.out⟩
        case measure => simp [intOf]; omega

theorem pendL_succ (k : Nat) (P : Int → Option M.Sec) : M.pendL (k + 1) P = M.pendL k P ++ (if (P (k : Int)).isSome then [(k : Int)] else []) := by
  unfold M.pendL
  rw [List.range_succ, List.map_append, List.filter_append]
  simp [List.filter_cons]
theorem ints_app (l m : List Int) : ints (l ++ m) = ints l ++ ints m := List.map_append
theorem int_info : (Try.prog.info? 3).map (fun i => (i.zero, i.size, i.bytes)) = some (some (.int .i64 0), 1, 8) := by kernel_rfl

set_option maxHeartbeats 2000000 in
theorem rpending_any (w : World) (h : RefAt w rB LB n d) :
    Calls Try.prog 28 #[.pointer (some ⟨rB, 0, none⟩)] w fun e w' => ∃ a cap, e = .returned (.slice a (M.pendL n d.P).length cap) ∧ Row w' a (M.pendL n d.P).length cap (ints (M.pendL n d.P)) ∧ Below w.heap.size w w' := by
  have h512 := h.n512
  have HD := Lib.hid h
  have HL : Hid (rB < w.heap.size ∧ LB < w.heap.size) := Lib.hid ⟨h.ltR, h.lt⟩
  clear h
  go_enter Try.func28, Try.ntmps28
  go_wp2_with fail
  have HO := Lib.hid (own_lit 3 w w.heap.size [] (Nat.le_refl _) (by simp))
  have HD1 := Lib.hid (HD.out.alloc (.cells #[] 3))
  have HB1 := Lib.hid ((Below.refl w.heap.size w).alloc (Nat.le_refl _) (.cells #[] 3))
  go_loopw [3, 4] (fun t u wr => ∃ (k : Nat) (A : Option Addr) (cap : Nat), k ≤ n ∧ u = .int .i64 k ∧ t = .slice A (M.pendL k d.P).length cap ∧ RefAt wr rB LB n d ∧ Below w.heap.size w wr ∧ Own 3 wr w.heap.size A (M.pendL k d.P).length cap (ints (M.pendL k d.P))) (fun _ u _ => n - (intOf u).toNat)
  case atStart => exact ⟨0, _, _, by omega, rfl, rfl, HD1.out, HB1.out, HO.out⟩
  case round =>
    obtain ⟨k, A, cap, hk, rfl, rfl, hdv, hbw, how⟩ := hrel
    have HDv := Lib.hid hdv
    have HBw := Lib.hid hbw
    have HOw := Lib.hid how
    have hsec3 := hdv.sec
    clear hdv hbw how HD1 HB1 HO
    have hk0 : (0 : Int) ≤ (k : Int) := by omega
    by_cases hke : k = n
    · subst hke
      go_wp2_with fail
      go_ret
      exact ⟨_, _, rfl, HOw.out.row.1, HBw.out⟩
    · have hlt : (k : Int) < (n : Int) := by omega
      have hkz : k < n := by omega
      clear hke
      have his := (HDv.out.secs k hkz).is
      have HS := Lib.hid (pendL_succ k d.P)
      have HPl := Lib.hid (M.pendL_len k d.P)
      generalize hb : (d.P (k : Int)).isSome = b at his HS
      clear hb
      cases b with
      | true =>
        rw [if_pos rfl] at HS
        have HO6 := Lib.hid (HOw.out.but ((But.refl [] wr).alloc (.cells #[.int .i64 (k : Int)] 3)) (by simp))
        have HD6 := Lib.hid (HDv.out.alloc (.cells #[.int .i64 (k : Int)] 3))
        have HB6 := Lib.hid (HBw.out.alloc HBw.out.size (.cells #[.int .i64 (k : Int)] 3))
        have HR6 := Lib.hid (row_one wr 3 (.int .i64 (k : Int)))
        go_wp2_with (refine wpList_append_one rfl (.tmp 23) (.tmp 25) 41 3 rfl (.int .i64 0) 8 Try.underlying41 int_info rfl (by omega) w.heap.size A (M.pendL k d.P).length cap (ints (M.pendL k d.P)) rfl HO6.out wr.heap.size 1 (.int .i64 (k : Int)) rfl HR6.out rfl (by have := HPl.out; omega) HB6.out.size ?_
                     intro a8 cap8 w8 hown8 hgr8 hb8
                     have HO8 := Lib.hid hown8
                     have HD8 := Lib.hid (HD6.out.below hb8 HL.out.1 HL.out.2)
                     have HB8 := Lib.hid (HB6.out.trans hb8)
                     clear hown8 hgr8 hb8)
        go_roundw
        case rel => exact ⟨k + 1, _, _, by omega, by go_num, by rw [HS.out, List.length_append]; rfl, HD8.out, HB8.out, by rw [HS.out, List.length_append, ints_app]; exact HO8.out⟩
        case measure => simp [intOf]; omega
      | false =>
        rw [if_neg (by simp), List.append_nil] at HS
        go_wp2_with fail
        go_roundw
        case rel => exact ⟨k + 1, _, _, by omega, by go_num, by rw [HS.out], HDv.out, HBw.out, by rw [HS.out]; exact HOw.out⟩
        case measure => simp [intOf]; omega
end Go.Proofs.Ytbcblcnnffdjdaa
