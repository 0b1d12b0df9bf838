/-
  Number answers as the document says; two lists of the same words are the same. CONDITIONS: the library's two errors lie as its text lays them.
-/
import Derived.Test.YtaldkdiijflmdaaDoorQuote
import Derived.Lib.AtoiErrMem
import Derived.Deep.QuietTactic
import Derived.BigQuiet
namespace Go.Proofs.YtaldkdiijflmdaaDoor
open Go.RowKit
set_option linter.unusedVariables false
set_option linter.unusedSimpArgs false
set_option maxRecDepth 20000

/-- the number that a text is -/
def number (l : List UInt8) : Option Int :=
  match Lib.parseUintB 64 (Lib.trimPrefix l [45]) with
  | .ok u => if 4611686018427387904 < u then none else if (Lib.trimPrefix l [45]).getD 0 0 = 48 ∧ l ≠ [48] then none else some (if Lib.hasPrefix l [45] then -(u : Int) else (u : Int))
  | _ => none

def NPost (w : World) (l : List UInt8) (e : Ending) (w' : World) : Prop :=
  Below w.heap.size w w' ∧ match number l with
  | some n => e = .returned (.tuple #[.int .i64 n, .int .i64 0])
  | none => e = .returned (.tuple #[.int .i64 0, .int .i64 4])

theorem npost_yes {w : World} {l : List UInt8} {n : Int} (h : number l = some n) {w' : World} (hb : Below w.heap.size w w') : NPost w l (.returned (.tuple #[.int .i64 n, .int .i64 0])) w' := by
  refine ⟨hb, ?_⟩; rw [h]
theorem npost_no {w : World} {l : List UInt8} (h : number l = none) {w' : World} (hb : Below w.heap.size w w') : NPost w l (.returned (.tuple #[.int .i64 0, .int .i64 4])) w' := by
  refine ⟨hb, ?_⟩; rw [h]

/-- the library's errors -/
structure Errs (w : World) : Prop where
  syn : ∃ te pe, w.cell? ⟨2, 0, none⟩ = some (.iface te pe)
  rng : ∃ te pe, w.cell? ⟨3, 0, none⟩ = some (.iface te pe)

theorem errs_below {w w' : World} {N : Nat} (h : Errs w) (hb : Below N w w') (hN : 4 ≤ N) : Errs w' := by
  obtain ⟨⟨t1, p1, h1⟩, t2, p2, h2⟩ := h
  exact ⟨⟨t1, p1, by rw [hb.cell (p := ⟨2, 0, none⟩) (by show 2 < N; omega)]; exact h1⟩, t2, p2, by rw [hb.cell (p := ⟨3, 0, none⟩) (by show 3 < N; omega)]; exact h2⟩

theorem errs_size {w : World} (h : Errs w) : 4 ≤ w.heap.size := by
  obtain ⟨_, t2, p2, h2⟩ := h
  have := World.block_lt_of_cell? w _ h2
  simp only at this
  omega

theorem below_bytes (w : World) (s : ByteArray) : Below w.heap.size w (Lib.bytesWorld w 5 s) := Lib.bytesWorld_below w 5 s

theorem parse_ok_ne {l : List UInt8} {u : Nat} (h : Lib.parseUintB 64 l = .ok u) : l ≠ [] := by
  intro e; subst e; cases h

theorem str_ne {a b : ByteArray} (h : a ≠ b) : (a.toList == b.toList) = false := by
  rw [Bool.eq_false_iff]
  intro he
  have := eq_of_beq he
  rw [ByteArray.toList_eq, ByteArray.toList_eq] at this
  exact h (ByteArray.ext (Array.ext' this))

theorem number_any (s : ByteArray) (w : World) (hE : Errs w) (hs : s.size ≤ 281474976710656) : Calls Tryd.prog 16 #[.string s] w (NPost w s.data.toList) := by
  have C := Lib.hid (Tryd.strings_CutPrefix s ⟨#[45]⟩ w)
  have e45 : (⟨#[45]⟩ : ByteArray).data.toList = [45] := rfl
  rw [e45] at C
  obtain ⟨D, hD⟩ : ∃ D : ByteArray, (⟨(Lib.trimPrefix s.data.toList [45]).toArray⟩ : ByteArray) = D := ⟨_, rfl⟩
  have hDl : D.data.toList = Lib.trimPrefix s.data.toList [45] := by rw [← hD]
  have hDs : D.size ≤ 281474976710656 := by
    rw [Lib.size_eq, hDl]
    unfold Lib.trimPrefix
    rw [Lib.size_eq] at hs
    split
    · rw [List.length_drop]; omega
    · exact hs
  rw [hD] at C
  obtain ⟨m, hm⟩ : ∃ m, Lib.hasPrefix s.data.toList [45] = m := ⟨_, rfl⟩
  rw [hm] at C
  obtain ⟨⟨t1, p1, h1⟩, t2, p2, h2⟩ := hE
  have HDl := Lib.hid hDl
  have Hm := Lib.hid hm
  clear hD hm e45
  cases hp : Lib.parseUintB 64 D.data.toList with
  | range =>
    have P := Lib.hid (Tryd.strconv_ParseUint_10_at64_range D hDs hp _ w h2 (.inr ⟨_, _, rfl⟩))
    have HE := Lib.hid (show number s.data.toList = none from by unfold number; rw [← hDl, hp])
    clear hp hDl hDs hs h1 h2
    go_enter Tryd.func16, Tryd.ntmps16
    go_wp2_with (first
      | (go_at_call 23; refine C.out.mono ?_; rintro e w' ⟨rfl, rfl⟩)
      | (go_at_call 24; refine P.out.mono ?_; rintro e w1 ⟨N, rfl, _, _, hb⟩; have HB := Lib.hid hb; clear hb))
    go_ret2
    exact npost_no HE.out HB.out
  | ok u =>
    have P := Lib.hid ((Tryd.strconv_ParseUint_10_at64_ok D (by omega) u hp w).mono (R' := fun e w' => e = .returned (.tuple #[.int .u64 (u : Int), .nilIface]) ∧ Below w.heap.size w w') (by
      rintro e w' ⟨rfl, rfl | rfl⟩
      · exact ⟨rfl, Below.refl _ _⟩
      · exact ⟨rfl, below_bytes _ _⟩))
    have hne := parse_ok_ne hp
    have hsz : 0 < D.size := by rw [Lib.size_eq]; exact List.length_pos_iff.2 hne
    by_cases hu : 4611686018427387904 < u
    · have HE := Lib.hid (show number s.data.toList = none from by unfold number; rw [← hDl, hp]; simp only; rw [if_pos hu])
      have g1 : (4611686018427387904 : Int) < (u : Int) := by omega
      clear hp hDl hDs hs h1 h2 hne hsz hu
      go_enter Tryd.func16, Tryd.ntmps16
      go_wp2_with (first
        | (go_at_call 23; refine C.out.mono ?_; rintro e w' ⟨rfl, rfl⟩)
        | (go_at_call 24; refine P.out.mono ?_; rintro e w1 ⟨rfl, hb⟩; have HB := Lib.hid hb; clear hb))
      go_ret2
      exact npost_no HE.out HB.out
    · have g1 : ¬ ((4611686018427387904 : Int) < (u : Int)) := by omega
      have gz : (0 : Int) < (D.size : Int) := by omega
      obtain ⟨x, hx⟩ : ∃ x, D[0]'hsz = x := ⟨_, rfl⟩
      have hx2 : (Lib.trimPrefix s.data.toList [45]).getD 0 0 = x := by
        rw [← hDl, List.getD_eq_getElem?_getD, List.getElem?_eq_getElem (by rw [← Lib.size_eq]; exact hsz)]
        exact hx
      have hun : number s.data.toList = if x = 48 ∧ s.data.toList ≠ [48] then none else some (if m = true then -(u : Int) else (u : Int)) := by
        unfold number
        rw [← hDl, hp]
        simp only
        rw [if_neg hu, hDl, hx2, Hm.out]
      have Hun := Lib.hid hun
      have hul : (u : Int) ≤ 4611686018427387904 := by omega
      have hun2 : IntKind.i64.wrap (u : Int) = (u : Int) := by rw [IntKind.wrap_i64]; omega
      have hun3 : IntKind.i64.wrap (-(u : Int)) = -(u : Int) := by rw [IntKind.wrap_i64]; omega
      clear hp hDl hDs hs h1 h2 hne hu hun hx2
      by_cases h48 : x = 48
      · by_cases hs0 : s = ⟨#[48]⟩
        · have hz : ((x.toNat : Int) == 48) = true := by subst h48; rfl
          have hq : (s.toList == [48]) = true := by subst hs0; simp [ByteArray.toList_eq]
          have HE : Hid (number s.data.toList = some (if m = true then -(u : Int) else (u : Int))) := by
            rw [Hun.out, if_neg (by subst hs0; simp)]
            exact Lib.hid rfl
          clear h48 hs0
          cases m with
          | true =>
            rw [if_pos rfl] at HE
            go_enter Tryd.func16, Tryd.ntmps16
            go_wp2_with (first
              | (go_at_call 23; refine C.out.mono ?_; rintro e w' ⟨rfl, rfl⟩)
              | (go_at_call 24; refine P.out.mono ?_; rintro e w1 ⟨rfl, hb⟩; have HB := Lib.hid hb; clear hb))
            go_ret2
            exact npost_yes HE.out HB.out
          | false =>
            rw [if_neg (by simp)] at HE
            go_enter Tryd.func16, Tryd.ntmps16
            go_wp2_with (first
              | (go_at_call 23; refine C.out.mono ?_; rintro e w' ⟨rfl, rfl⟩)
              | (go_at_call 24; refine P.out.mono ?_; rintro e w1 ⟨rfl, hb⟩; have HB := Lib.hid hb; clear hb))
            go_ret2
            exact npost_yes HE.out HB.out
        · have hz : ((x.toNat : Int) == 48) = true := by subst h48; rfl
          have hq : (s.toList == [48]) = false := by
            have := str_ne hs0
            simpa [ByteArray.toList_eq] using this
          have HE : Hid (number s.data.toList = none) := by
            rw [Hun.out, if_pos ⟨h48, fun e => hs0 (by rw [← str_data s, e]; rfl)⟩]
            exact Lib.hid rfl
          clear h48 hs0
          go_enter Tryd.func16, Tryd.ntmps16
          go_wp2_with (first
            | (go_at_call 23; refine C.out.mono ?_; rintro e w' ⟨rfl, rfl⟩)
            | (go_at_call 24; refine P.out.mono ?_; rintro e w1 ⟨rfl, hb⟩; have HB := Lib.hid hb; clear hb))
          go_ret2
          exact npost_no HE.out HB.out
      · have hz : ((x.toNat : Int) == 48) = false := int_neq (k := 48) (fun e => h48 (by apply UInt8.toNat_inj.1; exact e))
        have HE : Hid (number s.data.toList = some (if m = true then -(u : Int) else (u : Int))) := by
          rw [Hun.out, if_neg (fun h => h48 h.1)]
          exact Lib.hid rfl
        clear h48
        cases m with
        | true =>
          rw [if_pos rfl] at HE
          go_enter Tryd.func16, Tryd.ntmps16
          go_wp2_with (first
            | (go_at_call 23; refine C.out.mono ?_; rintro e w' ⟨rfl, rfl⟩)
            | (go_at_call 24; refine P.out.mono ?_; rintro e w1 ⟨rfl, hb⟩; have HB := Lib.hid hb; clear hb))
          go_ret2
          exact npost_yes HE.out HB.out
        | false =>
          rw [if_neg (by simp)] at HE
          go_enter Tryd.func16, Tryd.ntmps16
          go_wp2_with (first
            | (go_at_call 23; refine C.out.mono ?_; rintro e w' ⟨rfl, rfl⟩)
            | (go_at_call 24; refine P.out.mono ?_; rintro e w1 ⟨rfl, hb⟩; have HB := Lib.hid hb; clear hb))
          go_ret2
          exact npost_yes HE.out HB.out
  | _ =>
    have P := Lib.hid (Tryd.parse_bad D hDs (fun u e => by rw [hp] at e; cases e) (fun e => by rw [hp] at e; cases e) _ w h1 (.inr ⟨_, _, rfl⟩))
    have HE := Lib.hid (show number s.data.toList = none from by unfold number; rw [← hDl, hp])
    clear hp hDl hDs hs h1 h2
    go_enter Tryd.func16, Tryd.ntmps16
    go_wp2_with (first
      | (go_at_call 23; refine C.out.mono ?_; rintro e w' ⟨rfl, rfl⟩)
      | (go_at_call 24; refine P.out.mono ?_; rintro e w1 ⟨N, rfl, _, _, hb⟩; have HB := Lib.hid hb; clear hb))
    go_ret2
    exact npost_no HE.out HB.out

/-! two lists of words -/
theorem row_str {w : World} {a : Option Addr} {n cap : Nat} {l : List ByteArray} (h : Row w a n cap (strs l)) (i : Nat) (hi : i < n) : ∃ b off t, a = some ⟨b, off, none⟩ ∧ b < w.heap.size ∧ l[i]? = some t ∧ w.cell? ⟨b, off + i, none⟩ = some (.string t) := by
  obtain ⟨h1, h2, h3, h4⟩ := h
  rw [strs_length] at h1
  rcases h4 with h4 | ⟨b, off, ha, hlt, hc⟩
  · have : l = [] := List.map_eq_nil_iff.1 h4
    subst this
    simp at h1
    omega
  · have hl : i < l.length := by omega
    refine ⟨b, off, l[i], ha, hlt, List.getElem?_eq_getElem hl, ?_⟩
    rw [hc i hi]
    simp [strs, List.getElem?_eq_getElem hl]

theorem below_drewN (B : Nat) (w : World) (n : Nat) : Below B w (w.drewN n) := ⟨rfl, rfl, rfl, Nat.le_refl _, fun _ _ => rfl⟩

theorem same_yes (w : World) (l : List ByteArray) (a : Option Addr) (n c : Nat) (b : Option Addr) (m d : Nat) (h : Row w a n c (strs l)) (h' : Row w b m d (strs l)) (hl : n ≤ 1000000) :
    Calls Tryd.prog 14 #[.slice a n c, .slice b m d] w fun e w' => e = .returned (.bool true) ∧ Below w.heap.size w w' := by
  obtain rfl : n = m := by have h1 := h.1; have h2 := h'.1; omega
  have H := Lib.hid h
  have H' := Lib.hid h'
  have hnI : (n : Int) ≤ 1000000 := by omega
  have hnn : (n != n) = false := by simp
  clear h h'
  go_enter Tryd.func14, Tryd.ntmps14
  go_wp2_with fail
  go_loopw [13] (fun i wr => ∃ k : Nat, k ≤ n ∧ i = .int .i64 (k : Int) ∧ Below w.heap.size w wr) (fun i _ => n - (intOf i).toNat)
  case atStart => exact ⟨0, by omega, rfl, Below.refl _ _⟩
  case round =>
    obtain ⟨k, hk, rfl, hb⟩ := hrel
    have Hb := Lib.hid hb
    clear hb
    by_cases hlt : k < n
    · have hk0 : (0 : Int) ≤ (k : Int) := by omega
      have hltI : (k : Int) < (n : Int) := by omega
      obtain ⟨b1, off, x, rfl, hbx, hx, hcx⟩ := row_str H.out k hlt
      obtain ⟨b2, off', y, rfl, hby, hy, hcy⟩ := row_str H'.out k hlt
      obtain rfl : x = y := by rw [hx] at hy; injection hy
      have f1 : wr.cell? ⟨b1, off + k, none⟩ = some (.string x) := by rw [Hb.out.cell (p := ⟨b1, off + k, none⟩) hbx]; exact hcx
      have f2 : wr.cell? ⟨b2, off' + k, none⟩ = some (.string x) := by rw [Hb.out.cell (p := ⟨b2, off' + k, none⟩) hby]; exact hcy
      have hd : (x.toList == x.toList) = true := by simp
      clear hx hy hcx hcy hbx hby
      go_wp2_with fail
      go_quiet (fail)
      go_wp2_with fail
      go_roundw
      case rel => exact ⟨k + 1, by omega, by go_num, Hb.out.trans (below_drewN _ _ _)⟩
      case measure => simp [intOf]; omega
    · obtain rfl : k = n := by omega
      go_wp2_with fail
      go_ret
      exact ⟨rfl, Hb.out⟩
end Go.Proofs.YtaldkdiijflmdaaDoor
