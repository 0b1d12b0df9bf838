/-
  Calls whose answers the document fixes; what a message makes of a witness where nothing fails.
-/
import Derived.Test.YtpoolpckabpnfaaJWD
namespace Go.Proofs.Ytpoolpckabpnfaa.Wt
open Go.RowKit
open Ml (Mg may msgV MB)
set_option linter.unusedVariables false
set_option linter.unusedSimpArgs false
set_option maxRecDepth 20000

section
variable {n a b : Nat} {d : M.Dv} {c : M.Cl} {L W fr : Int} {m : Mg}
/-- a message for which nothing is put -/
theorem tak_none {e : Int} (hc : can fr m = true) (hp : takP (fx c.text) L fr m = (e, none)) (he : e ≠ 30) :
    takA n a b d c L fr m = ansA (fx c.text) m e ∧ takI n a b d c L fr m = true ∧ takD n a b d c L fr m = d ∧ takC n a b d c L fr m = c ∧ takL n a b d c L W fr m = if m.kind = 1 ∧ e = 0 then W else L := by
  have e0 : takE n a b d c L fr m = e := by unfold takE; rw [hp]; rfl
  have e1 : takI n a b d c L fr m = true := by unfold takI; rw [hc, e0, decide_eq_false he]; rfl
  have e2 : takD n a b d c L fr m = d := by unfold takD; rw [if_pos hc, hp]; rfl
  have e3 : takC n a b d c L fr m = c := by unfold takC; rw [if_pos hc, hp]; rfl
  refine ⟨by unfold takA; rw [if_pos e1, e3, e0], e1, e2, e3, ?_⟩
  unfold takL
  rw [hc, e0]
  simp
/-- .. for which something is put -/
theorem FR.puts {g : Int} (h : FR n a b g d c) (hg : g < 4611686018427387904) {e : Int} {y : Fx} (hc : can fr m = true) (hp : takP (fx c.text) L fr m = (e, some y)) :
    takA n a b d c L fr m = ansA y m 0 ∧ takI n a b d c L fr m = true ∧ FR n a b (g + 1) (takD n a b d c L fr m) (takC n a b d c L fr m) ∧ fx (takC n a b d c L fr m).text = y ∧ takL n a b d c L W fr m = if m.kind = 1 then W else L := by
  obtain ⟨t1, _, t3, _⟩ := h.take hg L fr m
  obtain ⟨e0, e3⟩ := t3 y hc (by rw [hp])
  have e1 : takI n a b d c L fr m = true := by unfold takI; rw [hc, e0]; rfl
  refine ⟨by unfold takA; rw [if_pos e1, e3, e0], e1, t1, e3, ?_⟩
  unfold takL
  rw [hc, e0]
  simp
theorem tak_no (hc : can fr m = false) : takA n a b d c L fr m = Ml.nil ∧ takI n a b d c L fr m = false ∧ takD n a b d c L fr m = d ∧ takC n a b d c L fr m = c ∧ takL n a b d c L W fr m = L := by
  have e1 : takI n a b d c L fr m = false := by unfold takI; rw [hc]; rfl
  exact ⟨by unfold takA; rw [e1]; rfl, e1, by unfold takD; rw [if_neg (by simp [hc])], by unfold takC; rw [if_neg (by simp [hc])], by unfold takL; rw [if_neg (by simp [hc])]⟩
end

/-- boxes of messages that lie beside a witness -/
structure AB (w0 w : World) (O : List Nat) (l : List (Nat × Mg)) : Prop where
  bo : ∀ p ∈ l, MB w p.1 p.2 ∧ w0.heap.size ≤ p.1
  bu : But O w0 w
theorem AB.but {w0 w w' : World} {O : List Nat} {l : List (Nat × Mg)} (h : AB w0 w O l) (hO : ∀ b, w0.heap.size ≤ b → b ∉ O) (hb : But O w w') : AB w0 w' O l :=
  ⟨fun p hp => ⟨mb_but (h.bo p hp).1 hb (hO _ (h.bo p hp).2), (h.bo p hp).2⟩, h.bu.trans hb⟩
theorem AB.below {w0 w w' : World} {O : List Nat} {l : List (Nat × Mg)} (h : AB w0 w O l) (hb : Below w.heap.size w w') : AB w0 w' O l :=
  ⟨fun p hp => ⟨(h.bo p hp).1.below hb (h.bo p hp).1.lt, (h.bo p hp).2⟩, h.bu.trans ((But.of_below hb).mono (by simp))⟩
theorem AB.add {w0 w : World} {O : List Nat} {l : List (Nat × Mg)} (h : AB w0 w O l) (m : Mg) : AB w0 (w.alloc (.cells m.cells 35)) O ((w.heap.size, m) :: l) :=
  ⟨fun p hp => by
    rcases List.mem_cons.1 hp with rfl | hp
    · exact ⟨MB.new w m, h.bu.size⟩
    · exact (h.below ((Below.refl _ _).alloc (Nat.le_refl _) _)).bo p hp, h.bu.trans ((But.of_below ((Below.refl _ _).alloc (Nat.le_refl _) _)).mono (by simp))⟩


set_option maxHeartbeats 8000000 in
theorem awake_any (w : World) : Calls Try.prog 8 #[] w fun e w' => e = .returned (.bool true) ∧ Below w.heap.size w w' := by
  have hN := new_yes 2 (by omega) w
  rw [show ((2 : Nat) : Int) = 2 from rfl] at hN
  have HN := Lib.hid hN
  clear hN
  have HO : Hid (∀ w' dB sB mB, DevAt w' dB sB mB 2 M.fresh → Calls Try.prog 16 #[.pointer (some ⟨dB, 0, none⟩), .int .i64 0, .int .i64 1, .int .i64 2] w' fun e w'' => ∃ tB cB, e = .returned (.tuple #[.pointer (some ⟨tB, 0, none⟩), .int .i64 0]) ∧ w'.heap.size ≤ tB ∧ w'.heap.size ≤ cB ∧ WS w'' dB sB mB 2 M.fresh tB cB 0 1 M.none0 2 2 ∧ Below w'.heap.size w' w'') := Lib.hid fun w' dB sB mB h => by
    have := wopen_yes w' h rfl (a := 0) (b := 1) (by omega) (W := 2) (by omega)
    rw [there_fresh] at this
    exact this
  have HX := Lib.hid (fun (w' : World) (p : Addr) => wopen_arg w' p 0 1 0 (by omega))
  have h0 := fr_fresh 2 0 1 (by omega)
  have hx0 : fx M.none0.text = Fx.zero := fx_none0
  -- the second one puts
  obtain ⟨p1, p2, p3, p4, p5⟩ := @FR.puts 2 0 1 M.fresh M.none0 0 2 0 ⟨1, 0, 0, 0, 0, 0, 0, 0, 0, 0, 0, ⟨#[]⟩, ⟨#[]⟩⟩ 0 h0 (by omega) 0 ⟨1, 0, 3, 0⟩ (by decide +kernel) (by rw [hx0]; decide +kernel)
  obtain ⟨d1, hd1⟩ : ∃ d', d' = takD 2 0 1 M.fresh M.none0 0 0 ⟨1, 0, 0, 0, 0, 0, 0, 0, 0, 0, 0, ⟨#[]⟩, ⟨#[]⟩⟩ := ⟨_, rfl⟩
  obtain ⟨c1, hc1⟩ : ∃ c', c' = takC 2 0 1 M.fresh M.none0 0 0 ⟨1, 0, 0, 0, 0, 0, 0, 0, 0, 0, 0, ⟨#[]⟩, ⟨#[]⟩⟩ := ⟨_, rfl⟩
  rw [← hd1, ← hc1] at p3
  rw [← hc1] at p4
  obtain ⟨q1, q2, q3, q4, q5⟩ := @FR.puts 2 0 1 d1 c1 2 2 0 ⟨3, 1, 1, 1, 0, 0, 0, 0, 0, 0, 0, ⟨#[]⟩, ⟨#[]⟩⟩ (0 + 1) p3 (by omega) 0 ⟨1, 0, 1, 1⟩ (by decide +kernel) (by rw [p4]; decide +kernel)
  obtain ⟨d2, hd2⟩ : ∃ d', d' = takD 2 0 1 d1 c1 2 0 ⟨3, 1, 1, 1, 0, 0, 0, 0, 0, 0, 0, ⟨#[]⟩, ⟨#[]⟩⟩ := ⟨_, rfl⟩
  obtain ⟨c2, hc2⟩ : ∃ c', c' = takC 2 0 1 d1 c1 2 0 ⟨3, 1, 1, 1, 0, 0, 0, 0, 0, 0, 0, ⟨#[]⟩, ⟨#[]⟩⟩ := ⟨_, rfl⟩
  rw [← hd2, ← hc2] at q3
  rw [← hc2] at q4
  have HT1 : Hid (∀ w' dB sB mB tB cB, WS w' dB sB mB 2 M.fresh tB cB 0 1 M.none0 2 2 → Calls Try.prog 19 #[.pointer (some ⟨tB, 0, none⟩), .int .i64 0, .agg #[.int .i64 1, .int .i64 0, .int .i64 0, .int .i64 0, .int .i64 0, .int .i64 0, .int .i64 0, .int .i64 0, .int .i64 0, .int .i64 0, .int .i64 0, .string ⟨#[]⟩, .string ⟨#[]⟩]] w' fun e w'' => e = .returned (.tuple #[.agg #[.int .i64 2, .int .i64 0, .int .i64 3, .int .i64 0, .int .i64 (-1), .int .i64 (-1), .int .i64 25, .int .i64 0, .int .i64 0, .int .i64 0, .int .i64 0, .string ⟨#[]⟩, .string ⟨#[]⟩], .bool true]) ∧ WS w'' dB sB mB 2 M.fresh tB cB 0 1 M.none0 2 2 ∧ But (ours dB sB mB cB tB) w' w'') := Lib.hid fun w' dB sB mB tB cB h => by
    obtain ⟨z1, z2, z3, z4, z5⟩ := @tak_none 2 0 1 M.fresh M.none0 2 2 0 ⟨1, 0, 0, 0, 0, 0, 0, 0, 0, 0, 0, ⟨#[]⟩, ⟨#[]⟩⟩ 25 (by decide +kernel) (by rw [hx0]; decide +kernel) (by decide)
    rw [hx0] at z1
    have := take_any w' h 0 ⟨1, 0, 0, 0, 0, 0, 0, 0, 0, 0, 0, ⟨#[]⟩, ⟨#[]⟩⟩
    rw [z1, z2, z3, z4, z5] at this
    exact this
  have HT2 : Hid (∀ w' dB sB mB tB cB, WS w' dB sB mB 2 M.fresh tB cB 0 1 M.none0 0 2 → Calls Try.prog 19 #[.pointer (some ⟨tB, 0, none⟩), .int .i64 0, .agg #[.int .i64 1, .int .i64 0, .int .i64 0, .int .i64 0, .int .i64 0, .int .i64 0, .int .i64 0, .int .i64 0, .int .i64 0, .int .i64 0, .int .i64 0, .string ⟨#[]⟩, .string ⟨#[]⟩]] w' fun e w'' => e = .returned (.tuple #[.agg #[.int .i64 2, .int .i64 1, .int .i64 3, .int .i64 0, .int .i64 (-1), .int .i64 0, .int .i64 0, .int .i64 0, .int .i64 0, .int .i64 0, .int .i64 0, .string ⟨#[]⟩, .string ⟨#[]⟩], .bool true]) ∧ WS w'' dB sB mB 2 d1 tB cB 0 1 c1 2 2 ∧ But (ours dB sB mB cB tB) w' w'') := Lib.hid fun w' dB sB mB tB cB h => by
    have := take_any w' h 0 ⟨1, 0, 0, 0, 0, 0, 0, 0, 0, 0, 0, ⟨#[]⟩, ⟨#[]⟩⟩
    rw [p1, p2, ← hd1, ← hc1, p5] at this
    exact this
  have HT3 : Hid (∀ w' dB sB mB tB cB, WS w' dB sB mB 2 d1 tB cB 0 1 c1 2 2 → Calls Try.prog 19 #[.pointer (some ⟨tB, 0, none⟩), .int .i64 1, .agg #[.int .i64 1, .int .i64 0, .int .i64 0, .int .i64 0, .int .i64 0, .int .i64 0, .int .i64 0, .int .i64 0, .int .i64 0, .int .i64 0, .int .i64 0, .string ⟨#[]⟩, .string ⟨#[]⟩]] w' fun e w'' => e = .returned (.tuple #[.agg #[.int .i64 2, .int .i64 1, .int .i64 3, .int .i64 0, .int .i64 (-1), .int .i64 0, .int .i64 25, .int .i64 0, .int .i64 0, .int .i64 0, .int .i64 0, .string ⟨#[]⟩, .string ⟨#[]⟩], .bool true]) ∧ WS w'' dB sB mB 2 d1 tB cB 0 1 c1 2 2 ∧ But (ours dB sB mB cB tB) w' w'') := Lib.hid fun w' dB sB mB tB cB h => by
    obtain ⟨z1, z2, z3, z4, z5⟩ := @tak_none 2 0 1 d1 c1 2 2 1 ⟨1, 0, 0, 0, 0, 0, 0, 0, 0, 0, 0, ⟨#[]⟩, ⟨#[]⟩⟩ 25 (by decide +kernel) (by rw [p4]; decide +kernel) (by decide)
    rw [p4] at z1
    have := take_any w' h 1 ⟨1, 0, 0, 0, 0, 0, 0, 0, 0, 0, 0, ⟨#[]⟩, ⟨#[]⟩⟩
    rw [z1, z2, z3, z4, z5] at this
    exact this
  have HT4 : Hid (∀ w' dB sB mB tB cB, WS w' dB sB mB 2 d1 tB cB 0 1 c1 2 2 → Calls Try.prog 19 #[.pointer (some ⟨tB, 0, none⟩), .int .i64 0, .agg #[.int .i64 3, .int .i64 1, .int .i64 1, .int .i64 1, .int .i64 0, .int .i64 0, .int .i64 0, .int .i64 0, .int .i64 0, .int .i64 0, .int .i64 0, .string ⟨#[]⟩, .string ⟨#[]⟩]] w' fun e w'' => e = .returned (.tuple #[.agg #[.int .i64 3, .int .i64 1, .int .i64 1, .int .i64 1, .int .i64 (-1), .int .i64 0, .int .i64 0, .int .i64 0, .int .i64 0, .int .i64 0, .int .i64 0, .string ⟨#[]⟩, .string ⟨#[]⟩], .bool true]) ∧ WS w'' dB sB mB 2 d2 tB cB 0 1 c2 2 2 ∧ But (ours dB sB mB cB tB) w' w'') := Lib.hid fun w' dB sB mB tB cB h => by
    have := take_any w' h 0 ⟨3, 1, 1, 1, 0, 0, 0, 0, 0, 0, 0, ⟨#[]⟩, ⟨#[]⟩⟩
    rw [q1, q2, ← hd2, ← hc2, q5] at this
    exact this
  have HT5 : Hid (∀ w' dB sB mB tB cB, WS w' dB sB mB 2 d2 tB cB 0 1 c2 2 2 → Calls Try.prog 19 #[.pointer (some ⟨tB, 0, none⟩), .int .i64 1, .agg #[.int .i64 1, .int .i64 0, .int .i64 0, .int .i64 0, .int .i64 0, .int .i64 0, .int .i64 0, .int .i64 0, .int .i64 0, .int .i64 0, .int .i64 0, .string ⟨#[]⟩, .string ⟨#[]⟩]] w' fun e w'' => e = .returned (.tuple #[.agg #[.int .i64 2, .int .i64 1, .int .i64 1, .int .i64 0, .int .i64 (-1), .int .i64 0, .int .i64 20, .int .i64 0, .int .i64 0, .int .i64 0, .int .i64 0, .string ⟨#[]⟩, .string ⟨#[]⟩], .bool true]) ∧ WS w'' dB sB mB 2 d2 tB cB 0 1 c2 2 2 ∧ But (ours dB sB mB cB tB) w' w'') := Lib.hid fun w' dB sB mB tB cB h => by
    obtain ⟨z1, z2, z3, z4, z5⟩ := @tak_none 2 0 1 d2 c2 2 2 1 ⟨1, 0, 0, 0, 0, 0, 0, 0, 0, 0, 0, ⟨#[]⟩, ⟨#[]⟩⟩ 20 (by decide +kernel) (by rw [q4]; decide +kernel) (by decide)
    rw [q4] at z1
    have := take_any w' h 1 ⟨1, 0, 0, 0, 0, 0, 0, 0, 0, 0, 0, ⟨#[]⟩, ⟨#[]⟩⟩
    rw [z1, z2, z3, z4, z5] at this
    exact this
  have HT6 : Hid (∀ w' dB sB mB tB cB, WS w' dB sB mB 2 d2 tB cB 0 1 c2 2 2 → Calls Try.prog 19 #[.pointer (some ⟨tB, 0, none⟩), .int .i64 2, .agg #[.int .i64 1, .int .i64 0, .int .i64 0, .int .i64 0, .int .i64 0, .int .i64 0, .int .i64 0, .int .i64 0, .int .i64 0, .int .i64 0, .int .i64 0, .string ⟨#[]⟩, .string ⟨#[]⟩]] w' fun e w'' => e = .returned (.tuple #[.agg #[.int .i64 0, .int .i64 0, .int .i64 0, .int .i64 0, .int .i64 0, .int .i64 0, .int .i64 0, .int .i64 0, .int .i64 0, .int .i64 0, .int .i64 0, .string ⟨#[]⟩, .string ⟨#[]⟩], .bool false]) ∧ WS w'' dB sB mB 2 d2 tB cB 0 1 c2 2 2 ∧ But (ours dB sB mB cB tB) w' w'') := Lib.hid fun w' dB sB mB tB cB h => by
    obtain ⟨z1, z2, z3, z4, z5⟩ := @tak_no 2 0 1 d2 c2 2 2 2 ⟨1, 0, 0, 0, 0, 0, 0, 0, 0, 0, 0, ⟨#[]⟩, ⟨#[]⟩⟩ (by decide +kernel)
    have := take_any w' h 2 ⟨1, 0, 0, 0, 0, 0, 0, 0, 0, 0, 0, ⟨#[]⟩, ⟨#[]⟩⟩
    rw [z1, z2, z3, z4, z5] at this
    exact this
  have HK1 : Hid (∀ w' dB sB mB tB cB, WS w' dB sB mB 2 M.fresh tB cB 0 1 M.none0 2 2 → Calls Try.prog 18 #[.pointer (some ⟨tB, 0, none⟩)] w' fun e w'' => e = .returned (.tuple #[]) ∧ WS w'' dB sB mB 2 M.fresh tB cB 0 1 M.none0 1 2 ∧ But (ours dB sB mB cB tB) w' w'') := Lib.hid fun w' dB sB mB tB cB h => tick_any h
  have HK2 : Hid (∀ w' dB sB mB tB cB, WS w' dB sB mB 2 M.fresh tB cB 0 1 M.none0 1 2 → Calls Try.prog 18 #[.pointer (some ⟨tB, 0, none⟩)] w' fun e w'' => e = .returned (.tuple #[]) ∧ WS w'' dB sB mB 2 M.fresh tB cB 0 1 M.none0 0 2 ∧ But (ours dB sB mB cB tB) w' w'') := Lib.hid fun w' dB sB mB tB cB h => tick_any h
  have HGE : Hid (∀ w' dB sB mB tB cB, WS w' dB sB mB 2 d2 tB cB 0 1 c2 2 2 → Calls Try.prog 12 #[.pointer (some ⟨tB, 0, none⟩)] w' fun e w'' => e = .returned (.int .i64 1) ∧ Below w'.heap.size w' w'') := Lib.hid fun w' dB sB mB tB cB h => by
    have := epoch_any w' h
    rw [q4] at this
    exact this
  have HGH : Hid (∀ w' dB sB mB tB cB, WS w' dB sB mB 2 d2 tB cB 0 1 c2 2 2 → Calls Try.prog 14 #[.pointer (some ⟨tB, 0, none⟩)] w' fun e w'' => e = .returned (.int .i64 0) ∧ Below w'.heap.size w' w'') := Lib.hid fun w' dB sB mB tB cB h => by
    have := holder_any w' h
    rw [q4] at this
    exact this
  have HGM : Hid (∀ w' dB sB mB tB cB, WS w' dB sB mB 2 d2 tB cB 0 1 c2 2 2 → Calls Try.prog 13 #[.pointer (some ⟨tB, 0, none⟩)] w' fun e w'' => e = .returned (.int .i64 1) ∧ Below w'.heap.size w' w'') := Lib.hid fun w' dB sB mB tB cB h => by
    have := mask_any w' h
    rw [q4] at this
    exact this
  have HGL : Hid (∀ w' dB sB mB tB cB, WS w' dB sB mB 2 d2 tB cB 0 1 c2 2 2 → Calls Try.prog 17 #[.pointer (some ⟨tB, 0, none⟩)] w' fun e w'' => e = .returned (.int .i64 2) ∧ w' = w'') := Lib.hid fun w' dB sB mB tB cB h => left_any h
  clear h0 hx0 p1 p2 p3 p4 p5 q1 q2 q3 q4 q5 hd1 hc1 hd2 hc2
  go_enter Try.func8, Try.ntmps8
  go_wp2_with (first
    | (go_at_call 20; with_reducible refine HN.out.mono ?_; rintro e w1 ⟨dB, sB, mB, rfl, hd, hb1, hg⟩
       have HD := Lib.hid hd
       have HB1 := Lib.hid hb1
       have HG1 := Lib.hid hg
       clear hd hb1 hg)
    | (go_at_call 16; with_reducible refine (HO.out _ _ _ _ HD.out).mono ?_; rintro e w2 ⟨tB, cB, rfl, h1, h2, h3, hb2⟩
       have S0 := Lib.hid h3
       have HG2 : Hid (∀ b ∈ ours dB sB mB cB tB, w.heap.size ≤ b) := Lib.hid fun b hx => by
         have := HB1.out.size
         have := HG1.out
         rcases mem_ours.1 hx with rfl | rfl | rfl | rfl | rfl <;> omega
       have HB2 := Lib.hid (HB1.out.trans (hb2.mono HB1.out.size))
       clear h1 h2 h3 hb2)
    | (go_at_call 16; with_reducible refine (HX.out _ _).mono ?_; rintro e w3 ⟨rfl, rfl⟩
       have HI : Hid (∀ b, w2.heap.size ≤ b → b ∉ ours dB sB mB cB tB) := Lib.hid fun b hb => S0.out.not_mem hb
       have F0 := Lib.hid ((⟨by simp, But.refl _ _⟩ : AB w2 w2 (ours dB sB mB cB tB) []).add ⟨1, 0, 0, 0, 0, 0, 0, 0, 0, 0, 0, ⟨#[]⟩, ⟨#[]⟩⟩)
       have S1 := Lib.hid (S0.out.below ((Below.refl w2.heap.size w2).alloc (Nat.le_refl _) (.cells #[.int .i64 1, .int .i64 0, .int .i64 0, .int .i64 0, .int .i64 0, .int .i64 0, .int .i64 0, .int .i64 0, .int .i64 0, .int .i64 0, .int .i64 0, .string ⟨#[]⟩, .string ⟨#[]⟩] 35)))
       clear S0)
    | (go_at_call 19; with_reducible refine (HT1.out _ _ _ _ _ _ S1.out).mono ?_; rintro e w4 ⟨rfl, hs, hb⟩
       have S2 := Lib.hid (hs.below ((Below.refl w4.heap.size w4).alloc (Nat.le_refl _) (.cells #[.int .i64 2, .int .i64 0, .int .i64 3, .int .i64 0, .int .i64 (-1), .int .i64 (-1), .int .i64 25, .int .i64 0, .int .i64 0, .int .i64 0, .int .i64 0, .string ⟨#[]⟩, .string ⟨#[]⟩] 35)))
       have F1 := Lib.hid ((F0.out.but HI.out hb).add ⟨2, 0, 3, 0, -1, -1, 25, 0, 0, 0, 0, ⟨#[]⟩, ⟨#[]⟩⟩)
       clear hs hb 
       obtain ⟨c0, c1, c2, c3, c4, c5, c6, c7, c8, c9, c10, c11, c12⟩ := (F1.out.bo (w2.heap.size, ⟨1, 0, 0, 0, 0, 0, 0, 0, 0, 0, 0, ⟨#[]⟩, ⟨#[]⟩⟩) (by simp)).1.cells
       simp only [Mg.cells] at c0 c1 c2 c3 c4 c5 c6 c7 c8 c9 c10 c11 c12)
    | (go_at_call 18; with_reducible refine (HK1.out _ _ _ _ _ _ S2.out).mono ?_; rintro e w5 ⟨rfl, hs, hb⟩
       have S3 := Lib.hid hs
       have F2 := Lib.hid (F1.out.but HI.out hb)
       clear hs hb c0 c1 c2 c3 c4 c5 c6 c7 c8 c9 c10 c11 c12
       obtain ⟨c0, c1, c2, c3, c4, c5, c6, c7, c8, c9, c10, c11, c12⟩ := (F2.out.bo (w2.heap.size, ⟨1, 0, 0, 0, 0, 0, 0, 0, 0, 0, 0, ⟨#[]⟩, ⟨#[]⟩⟩) (by simp)).1.cells
       simp only [Mg.cells] at c0 c1 c2 c3 c4 c5 c6 c7 c8 c9 c10 c11 c12)
    | (go_at_call 18; with_reducible refine (HK2.out _ _ _ _ _ _ S3.out).mono ?_; rintro e w6 ⟨rfl, hs, hb⟩
       have S4 := Lib.hid hs
       have F3 := Lib.hid (F2.out.but HI.out hb)
       clear hs hb c0 c1 c2 c3 c4 c5 c6 c7 c8 c9 c10 c11 c12
       obtain ⟨c0, c1, c2, c3, c4, c5, c6, c7, c8, c9, c10, c11, c12⟩ := (F3.out.bo (w2.heap.size, ⟨1, 0, 0, 0, 0, 0, 0, 0, 0, 0, 0, ⟨#[]⟩, ⟨#[]⟩⟩) (by simp)).1.cells
       simp only [Mg.cells] at c0 c1 c2 c3 c4 c5 c6 c7 c8 c9 c10 c11 c12)
    | (go_at_call 19; with_reducible refine (HT2.out _ _ _ _ _ _ S4.out).mono ?_; rintro e w7 ⟨rfl, hs, hb⟩
       have S5 := Lib.hid (hs.below ((Below.refl w7.heap.size w7).alloc (Nat.le_refl _) (.cells #[.int .i64 2, .int .i64 1, .int .i64 3, .int .i64 0, .int .i64 (-1), .int .i64 0, .int .i64 0, .int .i64 0, .int .i64 0, .int .i64 0, .int .i64 0, .string ⟨#[]⟩, .string ⟨#[]⟩] 35)))
       have F4 := Lib.hid ((F3.out.but HI.out hb).add ⟨2, 1, 3, 0, -1, 0, 0, 0, 0, 0, 0, ⟨#[]⟩, ⟨#[]⟩⟩)
       clear hs hb c0 c1 c2 c3 c4 c5 c6 c7 c8 c9 c10 c11 c12
       obtain ⟨c0, c1, c2, c3, c4, c5, c6, c7, c8, c9, c10, c11, c12⟩ := (F4.out.bo (w2.heap.size, ⟨1, 0, 0, 0, 0, 0, 0, 0, 0, 0, 0, ⟨#[]⟩, ⟨#[]⟩⟩) (by simp)).1.cells
       simp only [Mg.cells] at c0 c1 c2 c3 c4 c5 c6 c7 c8 c9 c10 c11 c12)
    | (go_at_call 19; with_reducible refine (HT3.out _ _ _ _ _ _ S5.out).mono ?_; rintro e w8 ⟨rfl, hs, hb⟩
       have S6 := Lib.hid (hs.below ((Below.refl w8.heap.size w8).alloc (Nat.le_refl _) (.cells #[.int .i64 2, .int .i64 1, .int .i64 3, .int .i64 0, .int .i64 (-1), .int .i64 0, .int .i64 25, .int .i64 0, .int .i64 0, .int .i64 0, .int .i64 0, .string ⟨#[]⟩, .string ⟨#[]⟩] 35)))
       have F5 := Lib.hid ((F4.out.but HI.out hb).add ⟨2, 1, 3, 0, -1, 0, 25, 0, 0, 0, 0, ⟨#[]⟩, ⟨#[]⟩⟩)
       clear hs hb c0 c1 c2 c3 c4 c5 c6 c7 c8 c9 c10 c11 c12
       obtain ⟨c0, c1, c2, c3, c4, c5, c6, c7, c8, c9, c10, c11, c12⟩ := (F5.out.bo (w2.heap.size, ⟨1, 0, 0, 0, 0, 0, 0, 0, 0, 0, 0, ⟨#[]⟩, ⟨#[]⟩⟩) (by simp)).1.cells
       simp only [Mg.cells] at c0 c1 c2 c3 c4 c5 c6 c7 c8 c9 c10 c11 c12)
    | (go_at_call 19; with_reducible refine (HT4.out _ _ _ _ _ _ S6.out).mono ?_; rintro e w9 ⟨rfl, hs, hb⟩
       have S7 := Lib.hid (hs.below ((Below.refl w9.heap.size w9).alloc (Nat.le_refl _) (.cells #[.int .i64 3, .int .i64 1, .int .i64 1, .int .i64 1, .int .i64 (-1), .int .i64 0, .int .i64 0, .int .i64 0, .int .i64 0, .int .i64 0, .int .i64 0, .string ⟨#[]⟩, .string ⟨#[]⟩] 35)))
       have F6 := Lib.hid ((F5.out.but HI.out hb).add ⟨3, 1, 1, 1, -1, 0, 0, 0, 0, 0, 0, ⟨#[]⟩, ⟨#[]⟩⟩)
       clear hs hb c0 c1 c2 c3 c4 c5 c6 c7 c8 c9 c10 c11 c12
       obtain ⟨c0, c1, c2, c3, c4, c5, c6, c7, c8, c9, c10, c11, c12⟩ := (F6.out.bo (w2.heap.size, ⟨1, 0, 0, 0, 0, 0, 0, 0, 0, 0, 0, ⟨#[]⟩, ⟨#[]⟩⟩) (by simp)).1.cells
       simp only [Mg.cells] at c0 c1 c2 c3 c4 c5 c6 c7 c8 c9 c10 c11 c12)
    | (go_at_call 19; with_reducible refine (HT5.out _ _ _ _ _ _ S7.out).mono ?_; rintro e w10 ⟨rfl, hs, hb⟩
       have S8 := Lib.hid (hs.below ((Below.refl w10.heap.size w10).alloc (Nat.le_refl _) (.cells #[.int .i64 2, .int .i64 1, .int .i64 1, .int .i64 0, .int .i64 (-1), .int .i64 0, .int .i64 20, .int .i64 0, .int .i64 0, .int .i64 0, .int .i64 0, .string ⟨#[]⟩, .string ⟨#[]⟩] 35)))
       have F7 := Lib.hid ((F6.out.but HI.out hb).add ⟨2, 1, 1, 0, -1, 0, 20, 0, 0, 0, 0, ⟨#[]⟩, ⟨#[]⟩⟩)
       clear hs hb c0 c1 c2 c3 c4 c5 c6 c7 c8 c9 c10 c11 c12
       obtain ⟨c0, c1, c2, c3, c4, c5, c6, c7, c8, c9, c10, c11, c12⟩ := (F7.out.bo (w2.heap.size, ⟨1, 0, 0, 0, 0, 0, 0, 0, 0, 0, 0, ⟨#[]⟩, ⟨#[]⟩⟩) (by simp)).1.cells
       simp only [Mg.cells] at c0 c1 c2 c3 c4 c5 c6 c7 c8 c9 c10 c11 c12)
    | (go_at_call 19; with_reducible refine (HT6.out _ _ _ _ _ _ S8.out).mono ?_; rintro e w11 ⟨rfl, hs, hb⟩
       have S9 := Lib.hid (hs.below ((Below.refl w11.heap.size w11).alloc (Nat.le_refl _) (.cells #[.int .i64 0, .int .i64 0, .int .i64 0, .int .i64 0, .int .i64 0, .int .i64 0, .int .i64 0, .int .i64 0, .int .i64 0, .int .i64 0, .int .i64 0, .string ⟨#[]⟩, .string ⟨#[]⟩] 35)))
       have F8 := Lib.hid ((F7.out.but HI.out hb).add ⟨0, 0, 0, 0, 0, 0, 0, 0, 0, 0, 0, ⟨#[]⟩, ⟨#[]⟩⟩)
       clear hs hb c0 c1 c2 c3 c4 c5 c6 c7 c8 c9 c10 c11 c12
       have HFc := F8
       have a6 := (HFc.out.bo (w4.heap.size, ⟨2, 0, 3, 0, -1, -1, 25, 0, 0, 0, 0, ⟨#[]⟩, ⟨#[]⟩⟩) (by simp)).1.cell 6
       have b0 := (HFc.out.bo (w7.heap.size, ⟨2, 1, 3, 0, -1, 0, 0, 0, 0, 0, 0, ⟨#[]⟩, ⟨#[]⟩⟩) (by simp)).1.cell 0
       have b1 := (HFc.out.bo (w7.heap.size, ⟨2, 1, 3, 0, -1, 0, 0, 0, 0, 0, 0, ⟨#[]⟩, ⟨#[]⟩⟩) (by simp)).1.cell 1
       have b6 := (HFc.out.bo (w7.heap.size, ⟨2, 1, 3, 0, -1, 0, 0, 0, 0, 0, 0, ⟨#[]⟩, ⟨#[]⟩⟩) (by simp)).1.cell 6
       have d6 := (HFc.out.bo (w8.heap.size, ⟨2, 1, 3, 0, -1, 0, 25, 0, 0, 0, 0, ⟨#[]⟩, ⟨#[]⟩⟩) (by simp)).1.cell 6
       have e2 := (HFc.out.bo (w9.heap.size, ⟨3, 1, 1, 1, -1, 0, 0, 0, 0, 0, 0, ⟨#[]⟩, ⟨#[]⟩⟩) (by simp)).1.cell 2
       have e6 := (HFc.out.bo (w9.heap.size, ⟨3, 1, 1, 1, -1, 0, 0, 0, 0, 0, 0, ⟨#[]⟩, ⟨#[]⟩⟩) (by simp)).1.cell 6
       have f6 := (HFc.out.bo (w10.heap.size, ⟨2, 1, 1, 0, -1, 0, 20, 0, 0, 0, 0, ⟨#[]⟩, ⟨#[]⟩⟩) (by simp)).1.cell 6
       simp only [Mg.cells, List.getElem?_toArray, List.getElem?_cons_zero, List.getElem?_cons_succ] at a6 b0 b1 b6 d6 e2 e6 f6)
    | (go_at_call 12; with_reducible refine (HGE.out _ _ _ _ _ _ S9.out).mono ?_; rintro e w12 ⟨rfl, hb⟩
       have S10 := Lib.hid (S9.out.below hb)
       have F9 := Lib.hid (F8.out.below hb)
       clear hb)
    | (go_at_call 14; with_reducible refine (HGH.out _ _ _ _ _ _ S10.out).mono ?_; rintro e w13 ⟨rfl, hb⟩
       have S11 := Lib.hid (S10.out.below hb)
       have F10 := Lib.hid (F9.out.below hb)
       clear hb)
    | (go_at_call 13; with_reducible refine (HGM.out _ _ _ _ _ _ S11.out).mono ?_; rintro e w14 ⟨rfl, hb⟩
       have S12 := Lib.hid (S11.out.below hb)
       have F11 := Lib.hid (F10.out.below hb)
       clear hb)
    | (go_at_call 17; with_reducible refine (HGL.out _ _ _ _ _ _ S12.out).mono ?_; rintro e w15 ⟨rfl, rfl⟩))
  go_ret
  exact ⟨rfl, HB2.out.trans (F11.out.bu.to_below HG2.out HB2.out.size)⟩
end Go.Proofs.Ytpoolpckabpnfaa.Wt
