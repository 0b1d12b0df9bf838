/-
  What one step of the reader does: it stands as the document says, or answers the error. CONDITIONS: the reader stands as one can; the rune is one that a text can have.
-/
import Derived.Test.YtaldkdiijflmdaaDoorHexi
import Derived.Deep.RegionLaw
import Derived.Deep.RegionHeld3
namespace Go.Proofs.YtaldkdiijflmdaaDoor
open Go.RowKit
set_option linter.unusedVariables false
set_option linter.unusedSimpArgs false
set_option maxRecDepth 20000

def SPost (R N : Nat) (w : World) (res : Except Int M.St) (e : Ending) (w' : World) : Prop :=
  match res with
  | .ok s' => e = .returned (.int .i64 0) ∧ Reads w' R N s' ∧ Mov R N w w'
  | .error c => e = .returned (.int .i64 c) ∧ Mov R N w w'

theorem spost_ok {R N : Nat} {w : World} {res : Except Int M.St} {s' : M.St} (h : res = .ok s') {w' : World} (h1 : Reads w' R N s') (h2 : Mov R N w w') : SPost R N w res (.returned (.int .i64 0)) w' := by
  subst h; exact ⟨rfl, h1, h2⟩
theorem spost_no {R N : Nat} {w : World} {res : Except Int M.St} {c : Int} (h : res = .error c) {w' : World} (h2 : Mov R N w w') : SPost R N w res (.returned (.int .i64 c)) w' := by
  subst h; exact ⟨rfl, h2⟩

/-! the quoted word -/
theorem quoted_any (w : World) (R N : Nat) (s : M.St) (r : Nat) (hr : r ≤ 1114111) (h : Reads w R N s) (hl : s.wd.length ≤ 100000) :
    Calls Tryd.prog 29 #[.pointer (some ⟨R, 0, none⟩), .int .i32 (r : Int)] w (SPost R N w (M.quotedS r s)) := by
  have HS := Lib.hid (say_any w R N s r hr h hl)
  obtain ⟨aw, nw, cw, ad, nd, cd, h⟩ := h
  have c0 := h.c0
  have f0 := h.f0
  by_cases h1 : r = 34
  · subst h1
    have H6 := Lib.hid (h.state 6)
    have E := Lib.hid (show M.quotedS 34 s = .ok { s with at_ := 6 } from by simp [M.quotedS])
    clear h hl hr
    go_enter Tryd.func29, Tryd.ntmps29
    go_wp2
    go_ret
    exact spost_ok E.out ⟨_, _, _, _, _, _, H6.out⟩ ((Mov.refl _ _ _).set _ _)
  · by_cases h2 : r = 92
    · subst h2
      have H6 := Lib.hid (h.state 3)
      have E := Lib.hid (show M.quotedS 92 s = .ok { s with at_ := 3 } from by simp [M.quotedS])
      clear h hl hr
      go_enter Tryd.func29, Tryd.ntmps29
      go_wp2
      go_ret
      exact spost_ok E.out ⟨_, _, _, _, _, _, H6.out⟩ ((Mov.refl _ _ _).set _ _)
    · have d1 : ((r : Int) == 34) = false := int_neq h1
      have d2 : ((r : Int) == 92) = false := int_neq h2
      cases hs : M.shownB r with
      | true =>
        have C := Lib.hid (shown_yes r w hs)
        have E := Lib.hid (show M.quotedS r s = .ok (M.say r s) from by simp [M.quotedS, h1, h2, hs])
        clear h hl hr hs h1 h2 c0 f0
        go_enter Tryd.func29, Tryd.ntmps29
        go_wp2_with (first | (go_at_call 17; refine C.out.mono ?_; rintro e w' ⟨rfl, rfl⟩) | (go_at_call 37; refine HS.out.mono ?_; rintro e w1 ⟨rfl, hs, hm⟩))
        go_ret
        exact spost_ok E.out hs hm
      | false =>
        have C := Lib.hid (shown_no r w hs)
        have E := Lib.hid (show M.quotedS r s = .error 4 from by simp [M.quotedS, h1, h2, hs, M.FORM])
        clear h hl hr hs h1 h2 c0 f0
        go_enter Tryd.func29, Tryd.ntmps29
        go_wp2_with (first | (go_at_call 17; refine C.out.mono ?_; rintro e w' ⟨rfl, rfl⟩))
        go_ret
        exact spost_no E.out (Mov.refl _ _ _)

/-! behind the sign that an escape begins with -/
theorem escaped_any (w : World) (R N : Nat) (s : M.St) (r : Nat) (hr : r ≤ 1114111) (h : Reads w R N s) (hl : s.wd.length ≤ 100000) :
    Calls Tryd.prog 30 #[.pointer (some ⟨R, 0, none⟩), .int .i32 (r : Int)] w (SPost R N w (M.escapedS r s)) := by
  have HS := Lib.hid (say_any w R N s r hr h hl)
  obtain ⟨aw, nw, cw, ad, nd, cd, h⟩ := h
  by_cases h1 : r = 34
  · subst h1
    have E := Lib.hid (show M.escapedS 34 s = .ok { M.say 34 s with at_ := 2 } from by simp [M.escapedS, M.say])
    clear h hl hr
    go_enter Tryd.func30, Tryd.ntmps30
    go_wp2_with (go_at_call 37; refine HS.out.mono ?_; rintro e w1 ⟨rfl, ⟨bw, mw, dw, bd, md, dd, hs⟩, hm⟩; have c0 := hs.c0; have f0 := hs.f0; have H2 := Lib.hid (hs.state 2); have HM := Lib.hid (hm.set 0 (.int .i64 ((2 : Nat) : Int))); clear hs hm)
    go_ret
    exact spost_ok E.out ⟨_, _, _, _, _, _, H2.out⟩ HM.out
  · by_cases h2 : r = 92
    · subst h2
      have E := Lib.hid (show M.escapedS 92 s = .ok { M.say 92 s with at_ := 2 } from by simp [M.escapedS, M.say])
      clear h hl hr
      go_enter Tryd.func30, Tryd.ntmps30
      go_wp2_with (go_at_call 37; refine HS.out.mono ?_; rintro e w1 ⟨rfl, ⟨bw, mw, dw, bd, md, dd, hs⟩, hm⟩; have c0 := hs.c0; have f0 := hs.f0; have H2 := Lib.hid (hs.state 2); have HM := Lib.hid (hm.set 0 (.int .i64 ((2 : Nat) : Int))); clear hs hm)
      go_ret
      exact spost_ok E.out ⟨_, _, _, _, _, _, H2.out⟩ HM.out
    · have d1 : ((r : Int) == 34) = false := int_neq h1
      have d2 : ((r : Int) == 92) = false := int_neq h2
      by_cases h3 : r = 120
      · subst h3
        have c0 := h.c0
        have f0 := h.f0
        have H6 := Lib.hid (h.state 4)
        have E := Lib.hid (show M.escapedS 120 s = .ok { s with at_ := 4 } from by simp [M.escapedS])
        clear h hl hr
        go_enter Tryd.func30, Tryd.ntmps30
        go_wp2
        go_ret
        exact spost_ok E.out ⟨_, _, _, _, _, _, H6.out⟩ ((Mov.refl _ _ _).set _ _)
      · have d3 : ((r : Int) == 120) = false := int_neq h3
        have E := Lib.hid (show M.escapedS r s = .error 4 from by simp [M.escapedS, h1, h2, h3, M.FORM])
        clear h hl hr h1 h2 h3
        go_enter Tryd.func30, Tryd.ntmps30
        go_wp2
        go_ret
        exact spost_no E.out (Mov.refl _ _ _)

/-! behind a word -/
theorem step_append_str (w : World) {ops : Array Oper} {o : Oper} {act : Act} {K : Act → World → Prop} {Q : Exit → Act → World → Prop} {E : Prop} (hgd : o.guard = none) (s x : Operand)
    (ho : o.op = .call { callee := .builtin .append, args := #[s, x], argTypes := #[24, 24] })
    (B : Nat) (a : Option Addr) (n cap : Nat) (l : List ByteArray) (hs : act.eval s = .slice a n cap) (hown : Own 9 w B a n cap (strs l))
    (A : Option Addr) (m c : Nat) (y : List ByteArray) (hx : act.eval x = .slice A m c) (hr : Row w A m c (strs y)) (hsum : n + m ≤ 1048576) (hB : B ≤ w.heap.size)
    (h : ∀ a' cap' w', Own 9 w' B a' (n + m) cap' (strs (l ++ y)) → w.grownBy w' (Value.slice a n cap).ownBlock → K (act.put o.dst (.slice a' (n + m) cap')) w') :
    if Region.wanted o (yielded ops act.tmps) = true then Oper.wp Tryd.prog o act w K Q else E := by
  have hw : Region.wanted o (yielded ops act.tmps) = true := by simp [Region.wanted, hgd]
  rw [if_pos hw]
  obtain ⟨a', cap', w', hrun, h2, h3, h4, h5⟩ := run_append_str w o.type B a n cap l hown A m c y hr hsum hB
  unfold Oper.wp execOp
  simp only [ho, resolve, invoke, builtin, Sem.run_bind, Sem.run_pure, Result.andThen_ok, List.map_toArray, List.map_cons, List.map_nil, hs, hx, hrun]
  exact h a' cap' w' h2 h4

theorem row_str_new (w : World) (v : ByteArray) : Row (w.alloc (.cells #[.string v] 9)) (some ⟨w.heap.size, 0, none⟩) 1 1 (strs [v]) := by
  refine ⟨rfl, by omega, by simp [maxLen], .inr ⟨w.heap.size, 0, rfl, by simp, fun i hi => ?_⟩⟩
  have : i = 0 := by omega
  subst this
  rw [World.cell?_alloc_mark]
  rfl

theorem grown_refl (w : World) (row : Option Nat) : w.grownBy w row := ⟨rfl, rfl, rfl, Nat.le_refl _, fun _ _ _ => rfl⟩

theorem Rd.conv {w : World} {R N : Nat} {s : M.St} {aw : Option Addr} {nw cw : Nat} {ad : Option Addr} {nd cd : Nat} (h : Rd w R N s aw nw cw ad nd cd) : (convert 33 9 (.slice ad nd cd)).run Tryd.prog w = .ok (.string (str s.wd)) w :=
  run_string_bytes (own_row h.rd).1

theorem end_any (w : World) (R N : Nat) (s : M.St) (r : Nat) (hr : r ≤ 1114111) (h : Reads w R N s) (hl : s.ws.length ≤ 1000) :
    Calls Tryd.prog 32 #[.pointer (some ⟨R, 0, none⟩), .int .i32 (r : Int)] w (SPost R N w (M.endS r s)) := by
  cases hb : M.blankB r with
  | false =>
    have C := Lib.hid (blank_no r w hb)
    have E := Lib.hid (show M.endS r s = .error 4 from by simp [M.endS, hb, M.FORM])
    clear h hl hr hb
    go_enter Tryd.func32, Tryd.ntmps32
    go_wp2_with (go_at_call 33; refine C.out.mono ?_; rintro e w' ⟨rfl, rfl⟩)
    go_ret
    exact spost_no E.out (Mov.refl _ _ _)
  | true =>
    have C := Lib.hid (blank_yes r w hb)
    have E := Lib.hid (show M.endS r s = .ok ⟨0, s.ws ++ [s.wd], [], s.hi⟩ from by simp [M.endS, hb])
    obtain ⟨aw, nw, cw, ad, nd, cd, h⟩ := h
    have hnw : nw = s.ws.length := by have := h.rw.2.1; rw [strs_length, List.length_map] at this; omega
    have c1 := h.c1
    have c2 := h.c2
    have cv := h.drew.conv
    have c1' := (h.alloc (.cells #[.string (str s.wd)] 9)).c1
    have H := Lib.hid h
    have HL : Hid (nw + 1 ≤ 1048576) := by show nw + 1 ≤ 1048576; omega
    clear h hl hr hb hnw
    go_enter Tryd.func32, Tryd.ntmps32
    go_wp2_with (go_at_call 33; refine C.out.mono ?_; rintro e w' ⟨rfl, rfl⟩)
    go_region_law ((refine step_append_str _ rfl (.tmp 12) (.tmp 18) rfl N aw nw cw (s.ws.map str) rfl (H.out.alloc _).rw _ 1 1 [str s.wd] rfl (row_str_new _ _) HL.out (H.out.alloc _).hN ?_
                    intro a4 cap4 w4 hown hgr
                    have HW := Lib.hid ((H.out.alloc (.cells #[.string (str s.wd)] 9)).drew.words hgr (l := s.ws ++ [s.wd]) (by rw [List.map_append]; exact hown))
                    have e1 := HW.out.1.1
                    have f1 := HW.out.1.2
                    have HC := Lib.hid (HW.out.2.1.word (grown_refl _ _) (l := []) (own_nil 5 _ N))
                    have e2 := HC.out.1.1
                    have f2 := HC.out.1.2
                    have e0 := HC.out.2.1.c0
                    have f0 := HC.out.2.1.f0
                    have HD := Lib.hid (HC.out.2.1.state 0)
                    have HM := Lib.hid (((((Mov.refl R N w).below ((Below.refl w.heap.size w).alloc (Nat.le_refl _) (.cells #[.string (str s.wd)] 9)) H.out.hN).trans HW.out.2.2.of_drew).trans HC.out.2.2).set 0 (.int .i64 ((0 : Nat) : Int)))
                    clear hown hgr))
    all_goals
      go_wp2_with fail
      go_ret
      exact spost_ok E.out ⟨_, _, _, _, _, _, HD.out⟩ HM.out

/-! in a plain word -/
theorem plainS_any (w : World) (R N : Nat) (s : M.St) (r : Nat) (hr : r ≤ 1114111) (h : Reads w R N s) (hl : s.wd.length ≤ 100000) (hl2 : s.ws.length ≤ 1000) :
    Calls Tryd.prog 28 #[.pointer (some ⟨R, 0, none⟩), .int .i32 (r : Int)] w (SPost R N w (M.plainS r s)) := by
  have HS := Lib.hid (say_any w R N s r hr h hl)
  have HE := Lib.hid (end_any w R N s r hr h hl2)
  cases hp : M.plainB r with
  | true =>
    have C := Lib.hid (plain_yes r w hp)
    have E := Lib.hid (show M.plainS r s = .ok (M.say r s) from by simp [M.plainS, hp])
    clear h hl hl2 hr hp
    go_enter Tryd.func28, Tryd.ntmps28
    go_wp2_with (first | (go_at_call 22; refine C.out.mono ?_; rintro e w' ⟨rfl, rfl⟩) | (go_at_call 37; refine HS.out.mono ?_; rintro e w1 ⟨rfl, hs, hm⟩))
    go_ret
    exact spost_ok E.out hs hm
  | false =>
    have C := Lib.hid (plain_no r w hp)
    have E := Lib.hid (show M.plainS r s = M.endS r s from by simp [M.plainS, hp])
    rw [E.out]
    generalize M.endS r s = res at *
    cases res with
    | ok s' =>
      clear h hl hl2 hr hp E
      go_enter Tryd.func28, Tryd.ntmps28
      go_wp2_with (first | (go_at_call 22; refine C.out.mono ?_; rintro e w' ⟨rfl, rfl⟩) | (go_at_call 32; refine HE.out.mono ?_; rintro e w1 ⟨rfl, hs, hm⟩))
      go_ret
      exact spost_ok rfl hs hm
    | error c =>
      clear h hl hl2 hr hp E
      go_enter Tryd.func28, Tryd.ntmps28
      go_wp2_with (first | (go_at_call 22; refine C.out.mono ?_; rintro e w' ⟨rfl, rfl⟩) | (go_at_call 32; refine HE.out.mono ?_; rintro e w1 ⟨rfl, hm⟩))
      go_ret
      exact spost_no rfl hm

/-! ahead of a word -/
theorem begin_any (w : World) (R N : Nat) (s : M.St) (r : Nat) (hr : r ≤ 1114111) (h : Reads w R N s) (hl : s.wd.length ≤ 100000) :
    Calls Tryd.prog 27 #[.pointer (some ⟨R, 0, none⟩), .int .i32 (r : Int)] w (SPost R N w (M.beginS r s)) := by
  cases hb : M.blankB r with
  | true =>
    have C := Lib.hid (blank_yes r w hb)
    have E := Lib.hid (show M.beginS r s = .ok s from by simp [M.beginS, hb])
    have H := Lib.hid h
    clear h hl hr hb
    go_enter Tryd.func27, Tryd.ntmps27
    go_wp2_with (first | (go_at_call 33; refine C.out.mono ?_; rintro e w' ⟨rfl, rfl⟩))
    go_ret
    exact spost_ok E.out H.out (Mov.refl _ _ _)
  | false =>
    have C := Lib.hid (blank_no r w hb)
    have HSa := Lib.hid (fun w1 (h1 : Reads w1 R N { s with at_ := 1 }) => say_any w1 R N { s with at_ := 1 } r hr h1 hl)
    obtain ⟨aw, nw, cw, ad, nd, cd, h⟩ := h
    have hnw : nw = s.ws.length := by have := h.rw.2.1; rw [strs_length, List.length_map] at this; omega
    have c0 := h.c0
    have f0 := h.f0
    have c1 := h.c1
    by_cases h1 : r = 34
    · subst h1
      by_cases h12 : s.ws.length = 12
      · have E := Lib.hid (show M.beginS 34 s = .error 5 from by simp [M.beginS, hb, h12, M.MANY])
        obtain rfl : nw = 12 := by omega
        clear h hl hr hb hnw h12
        go_enter Tryd.func27, Tryd.ntmps27
        go_wp2_with (first | (go_at_call 33; refine C.out.mono ?_; rintro e w' ⟨rfl, rfl⟩))
        go_ret
        exact spost_no E.out (Mov.refl _ _ _)
      · have E := Lib.hid (show M.beginS 34 s = .ok { s with at_ := 2 } from by simp [M.beginS, hb, h12])
        have d12 : ((nw : Int) == 12) = false := int_neq (k := 12) (by omega)
        have H2 := Lib.hid (h.state 2)
        clear h hl hr hb hnw h12
        go_enter Tryd.func27, Tryd.ntmps27
        go_wp2_with (first | (go_at_call 33; refine C.out.mono ?_; rintro e w' ⟨rfl, rfl⟩))
        go_ret
        exact spost_ok E.out ⟨_, _, _, _, _, _, H2.out⟩ ((Mov.refl _ _ _).set _ _)
    · have d1 : ((r : Int) == 34) = false := int_neq h1
      have d2 : ((r : Int) != 34) = true := int_ne h1
      cases hp : M.plainB r with
      | false =>
        have D := Lib.hid (plain_no r w hp)
        have E := Lib.hid (show M.beginS r s = .error 4 from by simp [M.beginS, hb, h1, hp, M.FORM])
        clear h hl hr hb hnw hp h1
        go_enter Tryd.func27, Tryd.ntmps27
        go_wp2_with (first | (go_at_call 33; refine C.out.mono ?_; rintro e w' ⟨rfl, rfl⟩) | (go_at_call 22; refine D.out.mono ?_; rintro e w' ⟨rfl, rfl⟩))
        go_ret
        exact spost_no E.out (Mov.refl _ _ _)
      | true =>
        have D := Lib.hid (plain_yes r w hp)
        by_cases h12 : s.ws.length = 12
        · have E := Lib.hid (show M.beginS r s = .error 5 from by simp [M.beginS, hb, h1, hp, h12, M.MANY])
          obtain rfl : nw = 12 := by omega
          clear h hl hr hb hnw hp h1 h12
          go_enter Tryd.func27, Tryd.ntmps27
          go_wp2_with (first | (go_at_call 33; refine C.out.mono ?_; rintro e w' ⟨rfl, rfl⟩) | (go_at_call 22; refine D.out.mono ?_; rintro e w' ⟨rfl, rfl⟩))
          go_ret
          exact spost_no E.out (Mov.refl _ _ _)
        · have E := Lib.hid (show M.beginS r s = .ok (M.say r { s with at_ := 1 }) from by simp [M.beginS, hb, h1, hp, h12, M.say])
          have d12 : ((nw : Int) == 12) = false := int_neq (k := 12) (by omega)
          have H1 := Lib.hid (h.state 1)
          have HM1 := Lib.hid ((Mov.refl R N w).set 0 (.int .i64 ((1 : Nat) : Int)))
          clear h hl hr hb hnw hp h1 h12
          go_enter Tryd.func27, Tryd.ntmps27
          go_wp2_with (first
            | (go_at_call 33; refine C.out.mono ?_; rintro e w' ⟨rfl, rfl⟩)
            | (go_at_call 22; refine D.out.mono ?_; rintro e w' ⟨rfl, rfl⟩)
            | (go_at_call 37; refine (HSa.out _ ⟨_, _, _, _, _, _, H1.out⟩).mono ?_; rintro e w1 ⟨rfl, hs, hm⟩))
          go_ret
          exact spost_ok E.out hs (HM1.out.trans hm)

/-! a digit -/
theorem step_append_u8 (w : World) {ops : Array Oper} {o : Oper} {act : Act} {K : Act → World → Prop} {Q : Exit → Act → World → Prop} {E : Prop} (hgd : o.guard = none) (s x : Operand)
    (ho : o.op = .call { callee := .builtin .append, args := #[s, x], argTypes := #[33, 33] })
    (B : Nat) (a : Option Addr) (n cap : Nat) (l : List UInt8) (hs : act.eval s = .slice a n cap) (hown : Own 5 w B a n cap (u8s l))
    (A : Option Addr) (m c : Nat) (y : List UInt8) (hx : act.eval x = .slice A m c) (hr : Row w A m c (u8s y)) (hsum : n + m ≤ 1048576) (hB : B ≤ w.heap.size)
    (h : ∀ a' cap' w', Own 5 w' B a' (n + m) cap' (u8s (l ++ y)) → w.grownBy w' (Value.slice a n cap).ownBlock → K (act.put o.dst (.slice a' (n + m) cap')) w') :
    if Region.wanted o (yielded ops act.tmps) = true then Oper.wp Tryd.prog o act w K Q else E := by
  have hw : Region.wanted o (yielded ops act.tmps) = true := by simp [Region.wanted, hgd]
  rw [if_pos hw]
  obtain ⟨a', cap', w', hrun, h2, h3, h4, h5⟩ := run_append_u8 w o.type B a n cap l hown A m c y hr hsum hB
  unfold Oper.wp execOp
  simp only [ho, resolve, invoke, builtin, Sem.run_bind, Sem.run_pure, Result.andThen_ok, List.map_toArray, List.map_cons, List.map_nil, hs, hx, hrun]
  exact h a' cap' w' h2 h4

theorem row_u8_new (w : World) (c : UInt8) (v : Int) (hv : (c.toNat : Int) = v) : Row (w.alloc (.cells #[.int .u8 v] 5)) (some ⟨w.heap.size, 0, none⟩) 1 1 (u8s [c]) := by
  subst hv
  refine ⟨rfl, by omega, by simp [maxLen], .inr ⟨w.heap.size, 0, rfl, by simp, fun i hi => ?_⟩⟩
  have : i = 0 := by omega
  subst this
  rw [World.cell?_alloc_mark]
  rfl

theorem digit_any (w : World) (R N : Nat) (s : M.St) (r : Nat) (hr : r ≤ 1114111) (hr2 : r < 55296 ∨ 57343 < r) (h : Reads w R N s) (hl : s.wd.length ≤ 100000) (h5 : s.at_ ≠ 4 → s.hi + 15 < 256) :
    Calls Tryd.prog 31 #[.pointer (some ⟨R, 0, none⟩), .int .i32 (r : Int)] w (SPost R N w (M.digitS r s)) := by
  have C0 := index_any r hr hr2 w
  have hN0 : N ≤ w.heap.size := by obtain ⟨_, _, _, _, _, _, h⟩ := h; exact h.hN
  cases hh : M.hexv r with
  | none =>
    have e1 : hexi r = -1 := by simp [hexi, hh]
    rw [e1] at C0
    have C := Lib.hid C0
    have E := Lib.hid (show M.digitS r s = .error 4 from by simp [M.digitS, hh, M.FORM])
    have HN := Lib.hid hN0
    clear h hl hr hr2 hh h5 C0 e1 hN0
    go_enter Tryd.func31, Tryd.ntmps31
    go_wp2_with (first | (go_at_call 38; refine C.out.mono ?_; rintro e w1 ⟨rfl, hb⟩))
    go_ret
    exact spost_no E.out ((Mov.refl _ _ _).below hb HN.out)
  | some d =>
    have hd := M.hexv_lt hh
    have e1 : hexi r = (d : Int) := by simp [hexi, hh]
    rw [e1] at C0
    have Reads1 : ∀ w1, Below w.heap.size w w1 → Reads w1 R N s := by
      intro w1 hb
      obtain ⟨aw, nw, cw, ad, nd, cd, h⟩ := h
      have hk := hb.block R (by have := h.hR; omega)
      exact ⟨aw, nw, cw, ad, nd, cd, (cell_of hk 0).trans h.c0, (cell_of hk 1).trans h.c1, (cell_of hk 2).trans h.c2, (cell_of hk 3).trans h.c3, (frozen_of hk 0).trans h.f0, (frozen_of hk 1).trans h.f1, (frozen_of hk 2).trans h.f2, (frozen_of hk 3).trans h.f3,
        own_below h.rw hb (Nat.le_refl _), own_below h.rd hb (Nat.le_refl _), h.hR, Nat.le_trans h.hN hb.size⟩
    have C := Lib.hid C0
    have HR := Lib.hid Reads1
    have HN := Lib.hid hN0
    have hd1 : (0 : Int) ≤ (d : Int) := by omega
    have hd2 : (d : Int) < 16 := by omega
    by_cases h4 : s.at_ = 4
    · have E := Lib.hid (show M.digitS r s = .ok { s with hi := d * 16, at_ := 5 } from by simp [M.digitS, hh, h4])
      have H4 := Lib.hid h4
      clear h hl hr hr2 hh h5 C0 e1 hN0 Reads1 h4
      go_enter Tryd.func31, Tryd.ntmps31
      go_wp2_with (first | (go_at_call 38; refine C.out.mono ?_; rintro e w1 ⟨rfl, hb⟩; obtain ⟨aw, nw, cw, ad, nd, cd, h⟩ := HR.out w1 hb; have c0 := h.c0; rw [H4.out] at c0; have c3 := h.c3; have f0 := h.f0; have f3 := h.f3; have HH := Lib.hid (h.high (d * 16)); have HA := Lib.hid (HH.out.state 5); have HM := Lib.hid ((((Mov.refl R N w).below hb HN.out).set 3 (.int .u8 ((d * 16 : Nat) : Int))).set 0 (.int .i64 ((5 : Nat) : Int))); clear h hb))
      go_ret
      have em : ((d * 16 : Nat) : Int) = (d : Int) * 16 := by omega
      rw [em] at HA HM
      exact spost_ok E.out ⟨_, _, _, _, _, _, HA.out⟩ HM.out
    · have h5' := h5 h4
      have d4 : ((s.at_ : Int) == 4) = false := int_neq (k := 4) h4
      have E := Lib.hid (show M.digitS r s = .ok { s with wd := s.wd ++ [UInt8.ofNat (s.hi + d)], at_ := 2 } from by simp [M.digitS, hh, h4])
      have hsum : ((UInt8.ofNat (s.hi + d)).toNat : Int) = IntKind.u8.wrap ((s.hi : Int) + IntKind.u8.wrap (d : Int)) := by
        have : (UInt8.ofNat (s.hi + d)).toNat = s.hi + d := by simp; omega
        rw [IntKind.wrap_u8, IntKind.wrap_u8]
        omega
      have HS := Lib.hid hsum
      have HL : Hid (s.wd.length ≤ 100000) := hl
      have hi1 : (0 : Int) ≤ (s.hi : Int) := by omega
      have hi2 : (s.hi : Int) + 15 < 256 := by omega
      generalize hq : s.hi = q at *
      have HQ := Lib.hid hq
      clear h hl hr hr2 hh h5 C0 e1 hN0 Reads1 h4 hsum h5' hq
      go_enter Tryd.func31, Tryd.ntmps31
      go_wp2_with (first | (go_at_call 38; refine C.out.mono ?_; rintro e w1 ⟨rfl, hb⟩; obtain ⟨aw, nw, cw, ad, nd, cd, h⟩ := HR.out w1 hb; have c0 := h.c0; have c2 := h.c2; have c3 := h.c3; rw [HQ.out] at c3; have ca2 := (h.alloc (.cells #[.int .u8 (IntKind.u8.wrap ((q : Int) + IntKind.u8.wrap (d : Int)))] 5)).c2; have HB := Lib.hid hb; have H := Lib.hid h; clear h hb))
      have HLn : Hid (nd + 1 ≤ 1048576) := by have := H.out.rd.2.1; rw [u8s_length] at this; have := HL.out; show nd + 1 ≤ 1048576; omega
      go_region_law ((refine step_append_u8 _ rfl (.tmp 28) (.tmp 36) rfl N ad nd cd s.wd rfl (H.out.alloc _).rd _ 1 1 [UInt8.ofNat (q + d)] rfl (row_u8_new _ _ _ HS.out) HLn.out (H.out.alloc _).hN ?_
                      intro a4 cap4 w4 hown hgr
                      have HW := Lib.hid ((H.out.alloc (.cells #[.int .u8 (IntKind.u8.wrap ((q : Int) + IntKind.u8.wrap (d : Int)))] 5)).drew.word hgr hown)
                      have e1 := HW.out.1.1
                      have f1 := HW.out.1.2
                      have e0 := HW.out.2.1.c0
                      have f0 := HW.out.2.1.f0
                      have HD := Lib.hid (HW.out.2.1.state 2)
                      have HM := Lib.hid (((((Mov.refl R N w).below HB.out HN.out).below ((Below.refl w1.heap.size w1).alloc (Nat.le_refl _) (.cells #[.int .u8 (IntKind.u8.wrap ((q : Int) + IntKind.u8.wrap (d : Int)))] 5)) H.out.hN).trans HW.out.2.2.of_drew).set 0 (.int .i64 ((2 : Nat) : Int)))
                      clear hown hgr))
      all_goals
        go_wp2_with fail
        go_ret
        have hq := HQ.out
        subst hq
        exact spost_ok E.out ⟨_, _, _, _, _, _, HD.out⟩ HM.out

/-- one step -/
theorem step_any (w : World) (R N : Nat) (s : M.St) (r : Nat) (hr : r ≤ 1114111) (hr2 : r < 55296 ∨ 57343 < r) (h : Reads w R N s) (hs : M.Ok s) (hl : s.wd.length ≤ 100000) :
    Calls Tryd.prog 21 #[.pointer (some ⟨R, 0, none⟩), .int .i32 (r : Int)] w (SPost R N w (M.step r s)) := by
  have h6 := hs.at6
  have hws := hs.ws
  have c0 : w.cell? ⟨R, 0, none⟩ = some (.int .i64 (s.at_ : Int)) := by obtain ⟨_, _, _, _, _, _, h⟩ := h; exact h.c0
  have leave : ∀ (k : Nat) (res : Except Int M.St), Calls Tryd.prog k #[.pointer (some ⟨R, 0, none⟩), .int .i32 (r : Int)] w (SPost R N w res) →
      Calls Tryd.prog k #[.pointer (some ⟨R, 0, none⟩), .int .i32 (r : Int)] w fun e w' => ∃ c : Int, e = .returned (.int .i64 c) ∧ SPost R N w res (.returned (.int .i64 c)) w' := by
    intro k res hc
    refine hc.mono ?_
    intro e w' hp
    cases res with
    | ok s' => obtain ⟨rfl, h1, h2⟩ := hp; exact ⟨0, rfl, rfl, h1, h2⟩
    | error c => obtain ⟨rfl, h2⟩ := hp; exact ⟨c, rfl, rfl, h2⟩
  have : s.at_ = 0 ∨ s.at_ = 1 ∨ s.at_ = 2 ∨ s.at_ = 3 ∨ s.at_ = 4 ∨ s.at_ = 5 ∨ s.at_ = 6 := by omega
  rcases this with e | e | e | e | e | e | e
  · have C := Lib.hid (leave 27 _ (begin_any w R N s r hr h hl))
    have E := Lib.hid (show M.step r s = M.beginS r s from by simp [M.step, e])
    rw [e] at c0
    clear h hs hl h6 hws leave e hr hr2
    rw [E.out]
    go_enter Tryd.func21, Tryd.ntmps21
    go_wp2_with (go_at_call 27; refine C.out.mono ?_; rintro e w1 ⟨c, rfl, hp⟩; have HP := Lib.hid hp; clear hp)
    go_ret
    exact HP.out
  · have C := Lib.hid (leave 28 _ (plainS_any w R N s r hr h hl (by omega)))
    have E := Lib.hid (show M.step r s = M.plainS r s from by simp [M.step, e])
    rw [e] at c0
    clear h hs hl h6 hws leave e hr hr2
    rw [E.out]
    go_enter Tryd.func21, Tryd.ntmps21
    go_wp2_with (go_at_call 28; refine C.out.mono ?_; rintro e w1 ⟨c, rfl, hp⟩; have HP := Lib.hid hp; clear hp)
    go_ret
    exact HP.out
  · have C := Lib.hid (leave 29 _ (quoted_any w R N s r hr h hl))
    have E := Lib.hid (show M.step r s = M.quotedS r s from by simp [M.step, e])
    rw [e] at c0
    clear h hs hl h6 hws leave e hr hr2
    rw [E.out]
    go_enter Tryd.func21, Tryd.ntmps21
    go_wp2_with (go_at_call 29; refine C.out.mono ?_; rintro e w1 ⟨c, rfl, hp⟩; have HP := Lib.hid hp; clear hp)
    go_ret
    exact HP.out
  · have C := Lib.hid (leave 30 _ (escaped_any w R N s r hr h hl))
    have E := Lib.hid (show M.step r s = M.escapedS r s from by simp [M.step, e])
    rw [e] at c0
    clear h hs hl h6 hws leave e hr hr2
    rw [E.out]
    go_enter Tryd.func21, Tryd.ntmps21
    go_wp2_with (go_at_call 30; refine C.out.mono ?_; rintro e w1 ⟨c, rfl, hp⟩; have HP := Lib.hid hp; clear hp)
    go_ret
    exact HP.out
  · have C := Lib.hid (leave 31 _ (digit_any w R N s r hr hr2 h hl (fun hne => absurd e hne)))
    have E := Lib.hid (show M.step r s = M.digitS r s from by simp [M.step, e])
    rw [e] at c0
    clear h hs hl h6 hws leave e hr hr2
    rw [E.out]
    go_enter Tryd.func21, Tryd.ntmps21
    go_wp2_with (go_at_call 31; refine C.out.mono ?_; rintro e w1 ⟨c, rfl, hp⟩; have HP := Lib.hid hp; clear hp)
    go_ret
    exact HP.out
  · have C := Lib.hid (leave 31 _ (digit_any w R N s r hr hr2 h hl (fun hne => by have := hs.hi; have := hs.hi5 e; omega)))
    have E := Lib.hid (show M.step r s = M.digitS r s from by simp [M.step, e])
    rw [e] at c0
    clear h hs hl h6 hws leave e hr hr2
    rw [E.out]
    go_enter Tryd.func21, Tryd.ntmps21
    go_wp2_with (go_at_call 31; refine C.out.mono ?_; rintro e w1 ⟨c, rfl, hp⟩; have HP := Lib.hid hp; clear hp)
    go_ret
    exact HP.out
  · have C := Lib.hid (leave 32 _ (end_any w R N s r hr h (by omega)))
    have E := Lib.hid (show M.step r s = M.endS r s from by simp [M.step, e])
    rw [e] at c0
    clear h hs hl h6 hws leave e hr hr2
    rw [E.out]
    go_enter Tryd.func21, Tryd.ntmps21
    go_wp2_with (go_at_call 32; refine C.out.mono ?_; rintro e w1 ⟨c, rfl, hp⟩; have HP := Lib.hid hp; clear hp)
    go_ret
    exact HP.out
end Go.Proofs.YtaldkdiijflmdaaDoor
