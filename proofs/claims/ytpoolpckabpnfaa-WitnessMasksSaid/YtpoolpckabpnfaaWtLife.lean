/-
  A life: a witness on a device of its own, and what it has granted.
-/
import Derived.Test.YtpoolpckabpnfaaJWA
import Derived.Test.YtpoolpckabpnfaaJWD
import Derived.Test.YtpoolpckabpnfaaJWE
namespace Go.Proofs.Ytpoolpckabpnfaa.Wt
open Go.RowKit
open Ml (Mg may msgV MB)
set_option linter.unusedVariables false
set_option linter.unusedSimpArgs false
set_option maxRecDepth 20000

def lfC (dB tB : Nat) (W : Int) (pB : Nat) : Array Value := #[.pointer (some ⟨dB, 0, none⟩), .pointer (some ⟨tB, 0, none⟩), .int .i64 W, .map (some pB), .bool false]
/-- a life, in memory -/
structure LF (w0 w : World) (gB pB dB sB mB : Nat) (d : M.Dv) (tB cB : Nat) (c : M.Cl) (L W : Int) (N : Nat) (E : Int → Option Int) : Prop where
  ws : WS w dB sB mB 2 d tB cB 0 1 c L W
  lf : Bo w gB (lfC dB tB W pB) 30
  mp : MapI w pB N E
  gp : gB ≠ pB ∧ gB ∉ ours dB sB mB cB tB ∧ pB ∉ ours dB sB mB cB tB
  fi : FI 2 0 1 d c
  gd : Good E (fx c.text)
  bu : But (gB :: pB :: ours dB sB mB cB tB) w0 w

theorem but_more {m l : List Nat} {a w w' : World} (h : But m a w) (hb : But l w w') (hl : ∀ x ∈ l, x ∈ m ∨ a.heap.size ≤ x) : But m a w' :=
  ⟨hb.os.trans h.os, hb.tape.trans h.tape, hb.output.trans h.output, Nat.le_trans h.size hb.size, fun k hk hn => (hb.block k (Nat.lt_of_lt_of_le hk h.size) fun hx => (hl k hx).elim hn (by omega)).trans (h.block k hk hn)⟩
variable {w0 w w' : World} {gB pB dB sB mB : Nat} {d : M.Dv} {tB cB : Nat} {c : M.Cl} {L W : Int} {N : Nat} {E : Int → Option Int}
theorem LF.but (h : LF w0 w gB pB dB sB mB d tB cB c L W N E) {l : List Nat} (hb : But l w w') (hn : ∀ x ∈ l, x ∉ gB :: pB :: ours dB sB mB cB tB) (hl : ∀ x ∈ l, w0.heap.size ≤ x) : LF w0 w' gB pB dB sB mB d tB cB c L W N E where
  ws := h.ws.but hb fun x hx => fun hm => hn x hx (by simp [hm])
  lf := h.lf.but hb fun hx => hn _ hx (by simp)
  mp := h.mp.but hb fun hx => hn _ hx (by simp)
  gp := h.gp
  fi := h.fi
  gd := h.gd
  bu := but_more h.bu hb fun x hx => .inr (hl x hx)
theorem LF.below (h : LF w0 w gB pB dB sB mB d tB cB c L W N E) (hb : Below w.heap.size w w') : LF w0 w' gB pB dB sB mB d tB cB c L W N E := h.but (But.of_below hb) (by simp) (by simp)
theorem LF.lt (h : LF w0 w gB pB dB sB mB d tB cB c L W N E) : ∀ x ∈ gB :: pB :: ours dB sB mB cB tB, x < w.heap.size := by
  intro x hx
  simp only [List.mem_cons] at hx
  rcases hx with rfl | rfl | hx
  · exact h.lf.lt
  · exact h.mp.lt
  · exact h.ws.ours_lt x hx
theorem LF.not_mem (h : LF w0 w gB pB dB sB mB d tB cB c L W N E) {g : Nat} (hg : w.heap.size ≤ g) : g ∉ gB :: pB :: ours dB sB mB cB tB := fun hx => by have := h.lt _ hx; omega
/-- the witness has changed -/
theorem LF.turn (h : LF w0 w gB pB dB sB mB d tB cB c L W N E) {d' : M.Dv} {c' : M.Cl} {L' : Int} (hs : WS w' dB sB mB 2 d' tB cB 0 1 c' L' W) (hb : But (ours dB sB mB cB tB) w w') (hf : FI 2 0 1 d' c') (hg : Good E (fx c'.text)) : LF w0 w' gB pB dB sB mB d' tB cB c' L' W N E where
  ws := hs
  lf := h.lf.but hb h.gp.2.1
  mp := h.mp.but hb h.gp.2.2
  gp := h.gp
  fi := hf
  gd := hg
  bu := but_more h.bu hb fun x hx => .inl (by simp [hx])

/-- .. as of now -/
theorem LF.now (h : LF w0 w gB pB dB sB mB d tB cB c L W N E) : LF w w gB pB dB sB mB d tB cB c L W N E := { h with bu := But.refl _ _ }
theorem LF.then' {d' : M.Dv} {c' : M.Cl} {L' : Int} {N' : Nat} {E' : Int → Option Int} (h : LF w0 w gB pB dB sB mB d tB cB c L W N E) (h' : LF w w' gB pB dB sB mB d' tB cB c' L' W N' E') : LF w0 w' gB pB dB sB mB d' tB cB c' L' W N' E' := { h' with bu := h.bu.trans h'.bu }
theorem LF.be (h : LF w0 w gB pB dB sB mB d tB cB c L W N E) (ge : ∀ b ∈ gB :: pB :: ours dB sB mB cB tB, w0.heap.size ≤ b) : Below w0.heap.size w0 w := h.bu.to_below ge (Nat.le_refl _)

set_option maxHeartbeats 4000000 in
theorem begin_any (w : World) (w1 : World) (hw1 : Below w.heap.size w w1) {x : Int} (hx : 0 ≤ x ∧ x < 256) {W : Int} (hW : W = x % 20 + 1) :
    Calls Try.prog 9 #[.int .u8 x] w1 fun e w' => ∃ gB pB dB sB mB tB cB, e = .returned (.pointer (some ⟨gB, 0, none⟩)) ∧ LF w w' gB pB dB sB mB M.fresh tB cB M.none0 W W 0 (fun _ => none) ∧ ∀ b ∈ gB :: pB :: ours dB sB mB cB tB, w.heap.size ≤ b := by
  have hW2 : 1 ≤ W ∧ W ≤ 20 := by omega
  have hN := new_yes 2 (by omega) w1
  rw [show ((2 : Nat) : Int) = 2 from rfl] at hN
  have HN := Lib.hid hN
  clear hN
  have HO : Hid (∀ w' dB sB mB, DevAt w' dB sB mB 2 M.fresh → Calls Try.prog 16 #[.pointer (some ⟨dB, 0, none⟩), .int .i64 0, .int .i64 1, .int .i64 W] w' fun e w'' => ∃ tB cB, e = .returned (.tuple #[.pointer (some ⟨tB, 0, none⟩), .int .i64 0]) ∧ w'.heap.size ≤ tB ∧ w'.heap.size ≤ cB ∧ WS w'' dB sB mB 2 M.fresh tB cB 0 1 M.none0 W W ∧ Below w'.heap.size w' w'') := Lib.hid fun w' dB sB mB h => by
    have := wopen_yes w' h rfl (a := 0) (b := 1) (by omega) (W := W) (by omega)
    rw [there_fresh] at this
    exact this
  have e1 : IntKind.u8.wrap (x.tmod 20) = W - 1 := by
    rw [Int.tmod_eq_emod_of_nonneg hx.1]
    have : x % 20 = W - 1 := by omega
    rw [this]
    unfold IntKind.wrap
    simp [IntKind.signed, IntKind.bits]
    omega
  have e2 : x.tmod 20 = W - 1 := by
    rw [Int.tmod_eq_emod_of_nonneg hx.1]
    omega
  have HW2 := Lib.hid hW2
  have hi1 : 1 ≤ W := hW2.1
  have hi2 : W ≤ 20 := hW2.2
  have hw1' := Lib.hid hw1
  have hmm := @run_makeMap Try.prog
  have hx0 := hx.1
  have hx1 := hx.2
  clear hx hW hW2 hw1
  go_enter Try.func9, Try.ntmps9
  go_upto_region 3 with (first
    | (go_at_call 20; with_reducible refine HN.out.mono ?_; rintro e w2 ⟨dB, sB, mB, rfl, hd, hb1, hg⟩
       have HD := Lib.hid hd
       have HB1 := Lib.hid hb1
       have HG := Lib.hid hg
       have HLf : Hid (Bo ((w2.alloc (.map #[] 0)).alloc (.cells #[.pointer (some ⟨dB, 0, none⟩), .pointer none, .int .i64 W, .map (some w2.heap.size), .bool false] 30)) (w2.heap.size + 1) #[.pointer (some ⟨dB, 0, none⟩), .pointer none, .int .i64 W, .map (some w2.heap.size), .bool false] 30) := Lib.hid (by
         have := Bo.new (w2.alloc (.map #[] 0)) #[.pointer (some ⟨dB, 0, none⟩), .pointer none, .int .i64 W, .map (some w2.heap.size), .bool false] 30
         rwa [show (w2.alloc (.map #[] 0)).heap.size = w2.heap.size + 1 by simp] at this)
       have hb4 := ((Below.refl w2.heap.size w2).alloc (Nat.le_refl _) (.map #[] 0)).alloc (by simp) (.cells #[.pointer (some ⟨dB, 0, none⟩), .pointer none, .int .i64 W, .map (some w2.heap.size), .bool false] 30)
       have HMp := Lib.hid ((mapi_made w2).below ((Below.refl (w2.heap.size + 1) (w2.alloc (.map #[] 0))).alloc (by simp) (.cells #[.pointer (some ⟨dB, 0, none⟩), .pointer none, .int .i64 W, .map (some w2.heap.size), .bool false] 30)) (Nat.lt_succ_self _))
       have HD4 := Lib.hid (hd.but (But.of_below hb4) (by simp) (by simp) (by simp))
       have HB4 := Lib.hid (hw1'.out.trans ((hb1.trans (hb4.mono hb1.size)).mono hw1'.out.size))
       have HSz : Hid (w1.heap.size ≤ w2.heap.size ∧ w.heap.size ≤ w1.heap.size ∧ dB < w2.heap.size ∧ sB < w2.heap.size ∧ mB < w2.heap.size) := Lib.hid ⟨hb1.size, hw1'.out.size, hd.ltD, hd.lt, hd.pend.lt⟩
       clear hd hb1 hg hb4))
  clear HN
  generalize (w2.alloc (.map #[] 0)).alloc (.cells #[.pointer (some ⟨dB, 0, none⟩), .pointer none, .int .i64 W, .map (some w2.heap.size), .bool false] 30) = W4 at *
  generalize w2.heap.size = pB at *
  have q0 := HLf.out.cell 0
  have q2 := HLf.out.cell 2
  simp only [List.getElem?_toArray, List.getElem?_cons_zero, List.getElem?_cons_succ] at q0 q2
  have HS : Hid (∀ w', Below W4.heap.size W4 w' → w'.cell? ⟨pB + 1, 0, none⟩ = some (.pointer (some ⟨dB, 0, none⟩)) ∧ w'.cell? ⟨pB + 1, 2, none⟩ = some (.int .i64 W)) := Lib.hid fun w' hb => ⟨(HLf.out.below hb HLf.out.lt).cell 0, (HLf.out.below hb HLf.out.lt).cell 2⟩
  go_region_held3 (fun w' => w'.cell? ⟨pB + 1, 0, none⟩ = some (.pointer (some ⟨dB, 0, none⟩)) ∧ w'.cell? ⟨pB + 1, 2, none⟩ = some (.int .i64 W))
    (first
      | exact ⟨q0, q2⟩
      | exact HS.out _ (Below.refl W4.heap.size W4).drew
      | exact HS.out _ B5.out
      | exact ⟨HL6.out.cell 0, HL6.out.cell 2⟩)
    (first
      | (go_at_call 16; refine (HO.out W4.drew _ _ _ (HD4.out.but (But.of_below (Below.refl W4.heap.size W4).drew) (by simp) (by simp) (by simp))).mono ?_; rintro e w5 ⟨tB, cB, rfl, h1, h2, h3, hb5⟩
         have B5 : Hid (Below W4.heap.size W4 w5) := Lib.hid ((Below.refl W4.heap.size W4).drew.trans hb5)
         have HL5 := Lib.hid (HLf.out.below B5.out HLf.out.lt)
         have HL6 : Hid (Bo (w5.setCell ⟨pB + 1, 1, none⟩ (.pointer (some ⟨tB, 0, none⟩))) (pB + 1) (lfC dB tB W pB) 30) := Lib.hid (HL5.out.set 1 _)
         have S5 := Lib.hid h3
         have H12 : Hid (W4.heap.size ≤ tB ∧ W4.heap.size ≤ cB) := Lib.hid ⟨h1, h2⟩
         have p1 := HL5.out.cell 1
         have pf := HL5.out.fz 1
         simp only [List.getElem?_toArray, List.getElem?_cons_zero, List.getElem?_cons_succ] at p1
         clear h1 h2 h3 hb5))
  go_wp2
  go_ret
  have hsz := HSz.out
  have hg := HG.out
  have h12 := H12.out
  have hlt := HLf.out.lt
  have hd1 := HD4.out.ltD
  have hd2 := HD4.out.lt
  have hd3 := HD4.out.pend.lt
  have hbu : But [pB + 1] w5 (w5.setCell ⟨pB + 1, 1, none⟩ (.pointer (some ⟨tB, 0, none⟩))) := (But.refl _ _).set _ (.inl (by simp))
  have hgB : pB + 1 ∉ ours dB sB mB cB tB := by simp only [mem_ours]; omega
  have hpB : pB ∉ ours dB sB mB cB tB := by simp only [mem_ours]; omega
  refine ⟨pB + 1, pB, dB, sB, mB, tB, cB, rfl, ⟨S5.out.but hbu (by simpa using hgB), HL6.out, (HMp.out.below B5.out HMp.out.lt).but hbu (by simp), ⟨by omega, hgB, hpB⟩, fi_fresh 2 0 1 (by omega), ?_, ?_⟩, ?_⟩
  · rw [fx_none0]; exact good_start
  · exact (But.of_below ((HB4.out.trans (B5.out.mono HB4.out.size)).setCell (by show w.heap.size ≤ pB + 1; omega) _)).mono (by simp)
  · intro b hb
    simp only [List.mem_cons, mem_ours] at hb
    omega
end Go.Proofs.Ytpoolpckabpnfaa.Wt
