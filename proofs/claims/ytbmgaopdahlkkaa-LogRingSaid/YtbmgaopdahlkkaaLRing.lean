/-
  PROVED: What is appended and trimmed comes out in order, however often it goes round, at most as many as the ring has. CONDITIONS: none (any ring, any texts, however many stay).
-/
import Derived.Test.YtbmgaopdahlkkaaLRun2
namespace Go.Proofs.Ytbmgaopdahlkkaa.logRing
open Go.ChangeShapes Go.WideShapes Go.ChangeAt Go.RowKit Go.Joins
open Go.ChangeMaps (open_string shut_string)
set_option linter.unusedVariables false
set_option linter.unusedSimpArgs false
set_option maxRecDepth 20000


variable {w0 : World} {dB sB mB n : Nat} {d : M.Dv} {lB rb cB first N a b : Nat} {c : M.Cl} {L : M.Lg} {K : Int}

/-- a slice of strings in a block of its own, from somewhere on -/
def OwnT (w : World) (g : Nat) (a : Option Addr) (k cap : Nat) (l : List ByteArray) : Prop :=
  l.length = k ∧ k ≤ cap ∧ cap ≤ maxLen ∧ ∃ o cur, a = some ⟨g, o, none⟩ ∧ w.heap[g]? = some (.cells cur 9 (0, 0)) ∧ o + cap ≤ cur.size ∧ ∀ i, i < k → cur[o + i]? = (C.strs l)[i]?

theorem OwnT.lt {w : World} {g : Nat} {ad : Option Addr} {k cap : Nat} {l : List ByteArray} (h : OwnT w g ad k cap l) : g < w.heap.size := by
  obtain ⟨_, _, _, o, cur, _, h4, _⟩ := h
  exact lt_of_heap h4
theorem OwnT.but {w w' : World} {g : Nat} {ad : Option Addr} {k cap : Nat} {l : List ByteArray} (h : OwnT w g ad k cap l) {q : List Nat} (hb : But q w w') (hq : g ∉ q) : OwnT w' g ad k cap l := by
  have hlt := h.lt
  obtain ⟨h1, h2, h3, o, cur, e, h4, h5, h6⟩ := h
  exact ⟨h1, h2, h3, o, cur, e, (hb.block g hlt hq).trans h4, h5, h6⟩
theorem OwnT.row {w : World} {g : Nat} {ad : Option Addr} {k cap : Nat} {l : List ByteArray} (h : OwnT w g ad k cap l) : C.Row w ad k cap (C.strs l) := by
  have hlt := h.lt
  obtain ⟨h1, h2, h3, o, cur, rfl, h4, h5, h6⟩ := h
  refine ⟨by rw [C.strs_length]; exact h1, h2, h3, .inr ⟨g, o, rfl, hlt, fun i hi => ?_⟩⟩
  rw [← h6 i hi]
  simp [World.cell?, h4]
theorem OwnT.cut {w : World} {g o k cap : Nat} {t : ByteArray} {l : List ByteArray} (h : OwnT w g (some ⟨g, o, none⟩) (k + 1) cap (t :: l)) : OwnT w g (if cap = 1 then some ⟨g, o, none⟩ else some ⟨g, o + 1, none⟩) k (cap - 1) l := by
  obtain ⟨h1, h2, h3, o', cur, e, h4, h5, h6⟩ := h
  injection e with e
  injection e with _ e _
  subst e
  by_cases hc : cap = 1
  · rw [if_pos hc]
    exact ⟨by simpa using h1, by omega, by omega, o, cur, rfl, h4, by omega, fun i hi => by omega⟩
  · rw [if_neg hc]
    refine ⟨by simpa using h1, by omega, by omega, o + 1, cur, rfl, h4, by omega, fun i hi => ?_⟩
    have := h6 (i + 1) (by omega)
    rw [show o + 1 + i = o + (i + 1) by omega, this]
    simp [C.strs]
theorem OwnT.at {w : World} {g : Nat} {ad : Option Addr} {k cap : Nat} {l : List ByteArray} (h : OwnT w g ad k cap l) : ∃ o, ad = some ⟨g, o, none⟩ := by
  obtain ⟨_, _, _, o, _, e, _⟩ := h
  exact ⟨o, e⟩
theorem ownT_new (w : World) : OwnT (w.alloc (.cells #[] 9)) w.heap.size (some ⟨w.heap.size, 0, none⟩) 0 0 [] :=
  ⟨rfl, Nat.le_refl _, by simp [maxLen], 0, #[], rfl, heap_alloc_new w _, by simp, fun i hi => by omega⟩

theorem wpList_append_tail (w : World) {ops : Array Oper} {rest : List Oper} {o : Oper} {act : Act} {Q : Exit → Act → World → Prop} (hgd : o.guard = none) (s x : Operand)
    (ho : o.op = .call { callee := .builtin .append, args := #[s, x], argTypes := #[22, 22] })
    (g : Nat) (ad : Option Addr) (k cap : Nat) (l : List ByteArray) (hs : act.eval s = .slice ad k cap) (hown : OwnT w g ad k cap l)
    (t : ByteArray) (b c : Nat) (hx : act.eval x = .slice (some ⟨b, 0, none⟩) 1 c) (hr : w.cell? ⟨b, 0, none⟩ = some (.string t)) (hsum : k + 1 ≤ 1048576)
    (h : ∀ g' a' cap' w', OwnT w' g' a' (k + 1) cap' (l ++ [t]) → But [g] w w' → (g' = g ∨ w.heap.size ≤ g') → wpList Try.prog ops Q rest (act.put o.dst (.slice a' (k + 1) cap')) w') : wpList Try.prog ops Q (o :: rest) act w := by
  obtain ⟨i0, hi0, hz0, hz1, hz2⟩ := info_parts C.str_info
  have hlt := hown.lt
  have hrow := hown.row
  obtain ⟨h1, h2, h3, of, cur, rfl, h4, h5, h6⟩ := hown
  have hnews : ∀ j u, ([Value.string t] : List Value)[j]? = some u → w.cell? ((⟨b, 0, none⟩ : Addr).add j) = some u := fun j u hu => by
    match j, hu with
    | 0, hu => simp at hu; subst hu; simpa [Addr.add] using hr
  refine wpList_plain hgd fun K hK => ?_
  by_cases hroom : k + 1 ≤ cap
  · have hrun := run_append_room_cells (P := Try.prog) w 22 o.type 9 i0 Try.underlying22 hi0 g of k cap ⟨b, 0, none⟩ 1 c [.string t] (by rw [hz1]; rfl) hnews (by simp [Value.oneCell']) hroom
      (fun j hj => by
        rw [hz1] at *
        simp at hj; subst hj
        simp only [World.cell?, h4]
        rw [show of + k * 1 + 0 = of + k by omega]
        simp
        omega)
      (fun j hj => by simp [World.frozen?, h4])
    rw [hz1, Nat.mul_one] at hrun
    obtain ⟨cur', c1, c2, c3⟩ := obj_setCells [Value.string t] (of + k) w cur h4 (by simp; omega)
    unfold Oper.wp execOp
    simp only [ho, resolve, invoke, builtin, Sem.run_bind, Sem.run_pure, Result.andThen_ok, List.map_toArray, List.map_cons, List.map_nil, hs, hx, hrun]
    refine hK _ _ (h g _ cap _ ⟨by simp [h1], hroom, h3, of, cur', rfl, c1, by omega, fun i hi => ?_⟩ ((But.refl _ w).sets g _ _ (.inl (by simp))) (.inl rfl))
    have hcl : cur.toList.length = cur.size := Array.length_toList
    rw [← Array.getElem?_toList, c3]
    by_cases hi2 : i < k
    · rw [List.getElem?_append_left (by rw [List.length_append, List.length_take]; simp; omega), List.getElem?_append_left (by rw [List.length_take]; omega), List.getElem?_take, if_pos (by omega), Array.getElem?_toList, h6 i hi2]
      have e : C.strs (l ++ [t]) = C.strs l ++ [Value.string t] := by simp [C.strs]
      rw [e, List.getElem?_append_left (by rw [C.strs_length]; omega)]
    · obtain rfl : i = k := by omega
      rw [List.getElem?_append_left (by rw [List.length_append, List.length_take]; simp; omega), List.getElem?_append_right (by rw [List.length_take]; omega), List.length_take, show of + i - min (of + i) cur.toList.length = 0 by omega]
      simp [C.strs, List.getElem?_append_right (show l.length ≤ i by omega), h1]
  · obtain ⟨v', w', hrun, h7, h8⟩ := run_append_arg_grows (P := Try.prog) w 22 o.type 9 i0 _ 1 16 Try.underlying22 hi0 hz0 hz1 hz2 rfl (by omega) ⟨g, of, none⟩ k cap (C.strs l) (by rw [C.strs_length, h1, Nat.mul_one])
      (fun j u hu => by
        have hj : j < k := by have := (List.getElem?_eq_some_iff.1 hu).1; rw [C.strs_length] at this; omega
        rw [addr_add]
        rw [← h6 j hj] at hu
        simp only [World.cell?, h4]
        simpa using hu)
      ⟨b, 0, none⟩ 1 c [.string t] rfl hnews (by omega) (by simp only [maxLen]; omega) (by omega)
    unfold Oper.wp execOp
    simp only [ho, resolve, invoke, builtin, Sem.run_bind, Sem.run_pure, Result.andThen_ok, List.map_toArray, List.map_cons, List.map_nil, hs, hx, hrun]
    rcases h7.2 with ⟨_, h0⟩ | ⟨g', cap', cur', rfl, hg', hh, hn', hm', hs', ht'⟩
    · omega
    · refine hK _ _ (h g' _ cap' w' ⟨by simp [h1], hn', hm', 0, cur', rfl, hh, by omega, fun i hi => ?_⟩ ⟨h8.os, h8.tape, h8.output, h8.size, fun q hq _ => h8.block q hq (by simp)⟩ (.inr hg'))
      have e : C.strs (l ++ [t]) = C.strs l ++ [Value.string t] := by simp [C.strs]
      rw [e, ← ht', List.getElem?_take, if_pos (by omega), Array.getElem?_toList, Nat.zero_add]

theorem Run.but {w w' : World} (h : Run w0 w dB sB mB n d lB rb cB first N a b c L K) {q : List Nat} (hb : But q w w') (h1 : dB ∉ q ∧ sB ∉ q ∧ mB ∉ q) (h2 : lB ∉ q ∧ rb ∉ q ∧ cB ∉ q) (h3 : ∀ x ∈ q, w0.heap.size ≤ x) : Run w0 w' dB sB mB n d lB rb cB first N a b c L K :=
  ⟨h.dv.but hb h1.1 h1.2.1 h1.2.2, h.fr, h.lg.but hb h2.1 h2.2.1 h2.2.2, h.be.trans (hb.to_below h3 h.be.size), h.od, h.ol⟩

theorem add_map (L : M.Lg) (t : ByteArray) : (L.add t).rs.map (·.s) = L.rs.map (·.s) ++ [t] := by simp [M.Lg.add]
theorem cut_map (L : M.Lg) {t : ByteArray} {l : List ByteArray} (h : L.rs.map (·.s) = t :: l) : (L.cut 1).rs.map (·.s) = l := by
  show (L.rs.drop 1).map (·.s) = l
  rw [List.map_drop, h]; rfl

set_option maxHeartbeats 4000000 in
theorem walk (x0 : Int) (a1 : Option Addr) (n1 c1 : Nat) (l1 : List ByteArray) (x2 : Int) (w : World) (w0 : (Lit.int .u8 x0).wf = true) (w1 : Row w a1 n1 c1 (C.strs l1)) (w2 : (Lit.int .u8 x2).wf = true) :
    Calls Try.prog 3 #[.int .u8 x0, .slice a1 n1 c1, .int .u8 x2] w fun e w' => e = .returned (.bool true) ∧ Below w.heap.size w w' := by
  obtain ⟨r, hr, hrm⟩ := u8_mod x0 19 (by decide) w0 (kI := 19) rfl
  have HA := Lib.hid (awake_any w)
  have HW := Lib.hid w1
  have hrI : (r : Int) < 19 := by omega
  have hr0 : (0 : Int) ≤ (r : Int) := by omega
  have Hr := Lib.hid hr
  have hx20 : 0 ≤ x2 ∧ x2 < 256 := by
    have h := w2
    simp [Lit.wf, IntKind.min, IntKind.max, IntKind.signed, IntKind.bits] at h
    omega
  obtain ⟨hx2a, hx2b⟩ := hx20
  clear w0 w1 w2 hr
  go_enter Try.func3, Try.ntmps3
  go_wp2_with (first
    | (go_at_call 8; refine HA.out.mono ?_; rintro e w1 ⟨rfl, hb1⟩; have HN := Lib.hid (run_new (w0 := w) w1 hb1 (r + 4) (by have := Hr.out; omega) (x := (r : Int) + 2 + 2) (by omega)); clear hb1)
    | (go_at_call 9; with_reducible refine HN.out.mono ?_; rintro e w2 ⟨dB, sB, mB, rfl, hD, _, _⟩
       have HO := Lib.hid (run_open w2 hD (first := 0) (N := r + 2) (a := r + 2) (b := r + 3) ⟨by omega, by omega, by omega, by omega, by omega, by omega, by omega, by have := Hr.out; omega⟩ (fun j _ => rfl) (x1 := 0) (x2 := (r : Int) + 2) (x3 := (r : Int) + 2) (x4 := (r : Int) + 2 + 1) rfl (by omega) (by omega) (by omega))
       clear hD)
    | (go_at_call 10; with_reducible refine HO.out.mono ?_; rintro e w3 ⟨lB, cB, rb0, d0, c0, rfl, hR0, _, _, _⟩
       have HR0 := Lib.hid (hR0.below ((Below.refl _ w3).alloc (Nat.le_refl _) (.cells #[] 9)))
       have HW0 := Lib.hid (ownT_new w3)
       have HN0 : Hid (w3.heap.size ≠ dB ∧ w3.heap.size ≠ sB ∧ w3.heap.size ≠ mB ∧ w3.heap.size ≠ lB ∧ w3.heap.size ≠ rb0 ∧ w3.heap.size ≠ cB) := Lib.hid (by
         have h1 := hR0.dv.ltD
         have h2 := hR0.dv.lt
         have h3 := hR0.dv.pend.lt
         have h4 := hR0.lg.la.lt
         have h5 := hR0.lg.ca.lt
         omega)
       have HZ0 : Hid (w.heap.size ≤ w3.heap.size) := Lib.hid hR0.be.size
       clear hR0))
  clear HN HO HA
  go_loopw [11, 12] (fun s i wr => ∃ (k : Nat) (d : M.Dv) (rb : Nat) (c : M.Cl) (L : M.Lg) (wb : Nat) (aW : Option Addr) (kW cW : Nat), k ≤ n1 ∧ k ≤ 200 ∧ s = .slice aW kW cW ∧ i = .int .i64 k ∧ Run w wr dB sB mB (r + 4) d lB rb cB 0 (r + 2) (r + 2) (r + 3) c L (2 + 2 * k) ∧ OwnT wr wb aW kW cW (L.rs.map (·.s)) ∧ (w.heap.size ≤ wb ∧ wb ≠ dB ∧ wb ≠ sB ∧ wb ≠ mB ∧ wb ≠ lB ∧ wb ≠ rb ∧ wb ≠ cB)) (fun _ i _ => 200 - (intOf i).toNat)
  case atStart => exact ⟨0, d0, rb0, c0, _, w3.heap.size, _, 0, 0, by omega, by omega, rfl, rfl, HR0.out.mono (by omega), HW0.out, HZ0.out, HN0.out⟩
  case round =>
    obtain ⟨k, d, rb, c, L, wb, aW, kW, cW, hkn, hk2, rfl, rfl, hR, hWt, hNw⟩ := hrel
    have HR := Lib.hid hR
    have HWt := Lib.hid hWt
    have HNw := Lib.hid hNw
    have hk0 : (0 : Int) ≤ (k : Int) := by omega
    have hkw0 : (0 : Int) ≤ (kW : Int) := by omega
    clear hR hWt hNw HR0 HW0 HN0 HZ0
    by_cases hend : k = n1
    · have hge : ¬ ((k : Int) < (n1 : Int)) := by omega
      clear hend
      have HOa := Lib.hid (run_again wr HR.out.dev (first := 0) (N := r + 2) (a := r + 2) (b := r + 3) HR.out.lg.geo (by omega) HR.out.lg.gd (x1 := 0) (x2 := (r : Int) + 2) (x3 := (r : Int) + 2) (x4 := (r : Int) + 2 + 1) rfl (by omega) (by omega) (by omega))
      have hkl : L.rs.length = kW := by have := HWt.out.1; rw [List.length_map] at this; exact this
      have HKw : Hid (kW ≤ 1000000) := Lib.hid (by have := HR.out.lg.gd.ring.len; have := Hr.out; omega)
      have ht1 : 0 ≤ L.time ∧ L.time ≤ 1000 := ⟨by have := HR.out.lg.gd.ring.l0; have := HR.out.lg.gd.ring.lt; omega, by have := HR.out.lg.gd.time; omega⟩
      obtain ⟨ht0, ht9⟩ := ht1
      go_wp2_with (first
        | (go_at_call 10; with_reducible refine HOa.out.mono ?_; rintro e w6 ⟨lB6, cB6, rb6, d6, c6, rfl, hR6, _, hb6, _⟩
           have HR6 := Lib.hid hR6
           have HW6 := Lib.hid (HWt.out.but hb6 (by have := HNw.out; simp; omega))
           have HLa : Hid (LogAt w6 lB rb dB 0 (r + 2) (.pointer (some ⟨cB, 0, none⟩)) L) := Lib.hid (HR.out.lg.la.but hb6 (by have := HR.out.lg.sp.l1; simp; omega) (by have := HR.out.lg.sp.r1; simp; omega))
           have hRc := hR6.records
           rw [show L.anew.rs.length = kW from hkl] at hRc
           have HRc6 : Hid (Calls Try.prog 15 #[.pointer (some ⟨lB6, 0, none⟩)] w6 fun e w' => ∃ aR cR, e = .returned (.slice aR kW cR) ∧ C.Own 9 w' w6.heap.size aR kW cR (C.strs (L.rs.map (·.s))) ∧ Below w6.heap.size w6 w') := Lib.hid hRc
           clear hR6 hb6 hRc)
        | (go_at_call 15; with_reducible refine HRc6.out.mono ?_; rintro e w7 ⟨a7, c7, rfl, hown7, hb7⟩
           have HSm := Lib.hid (same_yes w7 a7 aW kW c7 cW _ (C.own_row hown7).1 (HW6.out.but (But.of_below hb7) (by simp)).row HKw.out)
           have HR7 := Lib.hid (HR6.out.below hb7)
           have HL7 := Lib.hid (HLa.out.but (But.of_below hb7) (by simp) (by simp))
           have HHn : Hid (∀ i, Calls Try.prog 13 #[.pointer (some ⟨lB6, 0, none⟩)] (w7.drewN i) fun e w' => e = .returned (.int .i64 L.head) ∧ w7.drewN i = w') := Lib.hid fun i => by
             have := head_lg (w7.drewN i) (HR7.out.below (below_drewN _ _ i)).lg
             exact this
           have HTn : Hid (∀ i, Calls Try.prog 17 #[.pointer (some ⟨lB6, 0, none⟩)] (w7.drewN i) fun e w' => e = .returned (.int .i64 (L.time + 1)) ∧ w7.drewN i = w') := Lib.hid fun i => by
             have := time_lg (w7.drewN i) (HR7.out.below (below_drewN _ _ i)).lg
             exact this
           have HHo : Hid (∀ i, Calls Try.prog 13 #[.pointer (some ⟨lB, 0, none⟩)] (w7.drewN i) fun e w' => e = .returned (.int .i64 L.head) ∧ w7.drewN i = w') := Lib.hid fun i => by
             obtain ⟨ra, cap, g, o, _, _⟩ := HL7.out
             exact head_any (w7.drewN i) (g.of_block rfl)
           have HTo : Hid (∀ i, Calls Try.prog 17 #[.pointer (some ⟨lB, 0, none⟩)] (w7.drewN i) fun e w' => e = .returned (.int .i64 L.time) ∧ w7.drewN i = w') := Lib.hid fun i => by
             obtain ⟨ra, cap, g, o, _, _⟩ := HL7.out
             exact time_any (w7.drewN i) (g.of_block rfl)
           clear hown7 hb7)
        | (go_at_call 14; with_reducible refine HSm.out.mono ?_; rintro e w8 ⟨rfl, i8, rfl⟩)
        | (go_at_call 13; with_reducible refine (HHn.out _).mono ?_; rintro e w' ⟨rfl, rfl⟩)
        | (go_at_call 13; with_reducible refine (HHo.out _).mono ?_; rintro e w' ⟨rfl, rfl⟩)
        | (go_at_call 17; with_reducible refine (HTn.out _).mono ?_; rintro e w' ⟨rfl, rfl⟩)
        | (go_at_call 17; with_reducible refine (HTo.out _).mono ?_; rintro e w' ⟨rfl, rfl⟩))
      go_ret
      exact ⟨rfl, below_dn HR7.out.be _⟩
    · have hlt : (k : Int) < (n1 : Int) := by omega
      by_cases h60 : k = 200
      · have hge : ¬ ((k : Int) < 200) := by omega
        clear h60 hend
        have HOa := Lib.hid (run_again wr HR.out.dev (first := 0) (N := r + 2) (a := r + 2) (b := r + 3) HR.out.lg.geo (by omega) HR.out.lg.gd (x1 := 0) (x2 := (r : Int) + 2) (x3 := (r : Int) + 2) (x4 := (r : Int) + 2 + 1) rfl (by omega) (by omega) (by omega))
        have hkl : L.rs.length = kW := by have := HWt.out.1; rw [List.length_map] at this; exact this
        have HKw : Hid (kW ≤ 1000000) := Lib.hid (by have := HR.out.lg.gd.ring.len; have := Hr.out; omega)
        have ht1 : 0 ≤ L.time ∧ L.time ≤ 1000 := ⟨by have := HR.out.lg.gd.ring.l0; have := HR.out.lg.gd.ring.lt; omega, by have := HR.out.lg.gd.time; omega⟩
        obtain ⟨ht0, ht9⟩ := ht1
        go_wp2_with (first
          | (go_at_call 10; with_reducible refine HOa.out.mono ?_; rintro e w6 ⟨lB6, cB6, rb6, d6, c6, rfl, hR6, _, hb6, _⟩
             have HR6 := Lib.hid hR6
             have HW6 := Lib.hid (HWt.out.but hb6 (by have := HNw.out; simp; omega))
             have HLa : Hid (LogAt w6 lB rb dB 0 (r + 2) (.pointer (some ⟨cB, 0, none⟩)) L) := Lib.hid (HR.out.lg.la.but hb6 (by have := HR.out.lg.sp.l1; simp; omega) (by have := HR.out.lg.sp.r1; simp; omega))
             have hRc := hR6.records
             rw [show L.anew.rs.length = kW from hkl] at hRc
             have HRc6 : Hid (Calls Try.prog 15 #[.pointer (some ⟨lB6, 0, none⟩)] w6 fun e w' => ∃ aR cR, e = .returned (.slice aR kW cR) ∧ C.Own 9 w' w6.heap.size aR kW cR (C.strs (L.rs.map (·.s))) ∧ Below w6.heap.size w6 w') := Lib.hid hRc
             clear hR6 hb6 hRc)
          | (go_at_call 15; with_reducible refine HRc6.out.mono ?_; rintro e w7 ⟨a7, c7, rfl, hown7, hb7⟩
             have HSm := Lib.hid (same_yes w7 a7 aW kW c7 cW _ (C.own_row hown7).1 (HW6.out.but (But.of_below hb7) (by simp)).row HKw.out)
             have HR7 := Lib.hid (HR6.out.below hb7)
             have HL7 := Lib.hid (HLa.out.but (But.of_below hb7) (by simp) (by simp))
             have HHn : Hid (∀ i, Calls Try.prog 13 #[.pointer (some ⟨lB6, 0, none⟩)] (w7.drewN i) fun e w' => e = .returned (.int .i64 L.head) ∧ w7.drewN i = w') := Lib.hid fun i => by
               have := head_lg (w7.drewN i) (HR7.out.below (below_drewN _ _ i)).lg
               exact this
             have HTn : Hid (∀ i, Calls Try.prog 17 #[.pointer (some ⟨lB6, 0, none⟩)] (w7.drewN i) fun e w' => e = .returned (.int .i64 (L.time + 1)) ∧ w7.drewN i = w') := Lib.hid fun i => by
               have := time_lg (w7.drewN i) (HR7.out.below (below_drewN _ _ i)).lg
               exact this
             have HHo : Hid (∀ i, Calls Try.prog 13 #[.pointer (some ⟨lB, 0, none⟩)] (w7.drewN i) fun e w' => e = .returned (.int .i64 L.head) ∧ w7.drewN i = w') := Lib.hid fun i => by
               obtain ⟨ra, cap, g, o, _, _⟩ := HL7.out
               exact head_any (w7.drewN i) (g.of_block rfl)
             have HTo : Hid (∀ i, Calls Try.prog 17 #[.pointer (some ⟨lB, 0, none⟩)] (w7.drewN i) fun e w' => e = .returned (.int .i64 L.time) ∧ w7.drewN i = w') := Lib.hid fun i => by
               obtain ⟨ra, cap, g, o, _, _⟩ := HL7.out
               exact time_any (w7.drewN i) (g.of_block rfl)
             clear hown7 hb7)
          | (go_at_call 14; with_reducible refine HSm.out.mono ?_; rintro e w8 ⟨rfl, i8, rfl⟩)
          | (go_at_call 13; with_reducible refine (HHn.out _).mono ?_; rintro e w' ⟨rfl, rfl⟩)
          | (go_at_call 13; with_reducible refine (HHo.out _).mono ?_; rintro e w' ⟨rfl, rfl⟩)
          | (go_at_call 17; with_reducible refine (HTn.out _).mono ?_; rintro e w' ⟨rfl, rfl⟩)
          | (go_at_call 17; with_reducible refine (HTo.out _).mono ?_; rintro e w' ⟨rfl, rfl⟩))
        go_ret
        exact ⟨rfl, below_dn HR7.out.be _⟩
      · have hlt6 : (k : Int) < 200 := by omega
        obtain ⟨b, off, t, rfl, ht, hct, hbl⟩ := strs_at HW.out HR.out.be (show k < n1 by omega)
        have HKn : Hid (k < n1 ∧ k < 200) := Lib.hid ⟨by omega, by omega⟩
        have Hbl := Lib.hid hbl
        have HCt : Hid (∀ w', Below w.heap.size w w' → w'.cell? ⟨b, off + k, none⟩ = some (.string t)) := Lib.hid fun w' hb => by
          rw [hb.cell (p := ⟨b, off + k, none⟩) hbl, ← HR.out.be.cell (p := ⟨b, off + k, none⟩) hbl]; exact hct
        clear ht hbl hend h60
        have HAp := Lib.hid (HR.out.append (by have := HKn.out; omega) t)
        by_cases hbig : 110 < t.size
        · have hbigI : (110 : Int) < (t.size : Int) := by omega
          have e1 : M.appR (r + 2) L t = 3 := if_pos hbig
          rw [e1, M.appL_no (by decide)] at HAp
          clear hbig e1
          go_wp2_with (first
            | (go_at_call 11; with_reducible refine HAp.out.mono ?_; rintro e w5 ⟨d5, rb5, rfl, hR5, hb5, hr5, _⟩
               have HR5 := Lib.hid hR5
               have HW5 := Lib.hid (HWt.out.but hb5 (by have := HNw.out; simp; omega))
               have HNw5 : Hid (wb ≠ dB ∧ wb ≠ sB ∧ wb ≠ mB ∧ wb ≠ lB ∧ wb ≠ rb5 ∧ wb ≠ cB) := Lib.hid (by have := HNw.out; have := HWt.out.lt; omega)
               clear hR5 hb5 hr5))
          go_roundw
          case rel => exact ⟨k + 1, d5, rb5, c, L, wb, aW, kW, cW, by have := HKn.out; omega, by have := HKn.out; omega, rfl, by go_num, HR5.out.mono (by omega), HW5.out, HNw.out.1, HNw5.out⟩
          case measure => have := HKn.out; simp [intOf]; omega
        · have hbigI : decide ((110 : Int) < (t.size : Int)) = false := by simp; omega
          have hkl : L.rs.length = kW := by have := HWt.out.1; rw [List.length_map] at this; exact this
          have HRl : Hid (kW ≤ r + 2) := Lib.hid (by have := HR.out.lg.gd.ring.len; omega)
          have hkwI : (kW : Int) ≤ 1000 := by have := HRl.out; have := Hr.out; omega
          by_cases hful : kW < r + 2
          · have hfI : (kW : Int) < (r : Int) + 2 := by omega
            have e1 : M.appR (r + 2) L t = 0 := by unfold M.appR; rw [if_neg hbig, if_neg (by omega)]
            rw [e1, M.appL_ok] at HAp
            clear hbig e1 hful hkl
            have hh1 : 1 ≤ L.head := HR.out.lg.gd.ring.h1
            have hh2 : L.head ≤ 1000 := by have h9 := HR.out.lg.gd.tail; unfold M.Lg.tail at h9; have := HKn.out; omega
            have HKk : Hid (kW + 1 ≤ 1048576) := Lib.hid (by have := HRl.out; have := Hr.out; omega)
            by_cases hst : x2 < (kW : Int) + 1
            · obtain ⟨k0, hk0e⟩ : ∃ k0, k0 = kW := ⟨kW, rfl⟩
              go_wp2_with (first
                | (go_at_call 11; with_reducible refine HAp.out.mono ?_; rintro e w5 ⟨d5, rb5, rfl, hR5, hb5, hr5, _⟩
                   have HR5 := Lib.hid hR5
                   have HW5 := Lib.hid (HWt.out.but hb5 (by have := HNw.out; simp; omega))
                   have HNw5 : Hid (wb ≠ dB ∧ wb ≠ sB ∧ wb ≠ mB ∧ wb ≠ lB ∧ wb ≠ rb5 ∧ wb ≠ cB) := Lib.hid (by have := HNw.out; have := HWt.out.lt; omega)
                   have hct5 := HCt.out _ hR5.be
                   clear hR5 hb5 hr5)
                | (at_builtin
                   refine wpList_append_tail _ rfl (.tmp 85) (.tmp 90) rfl wb aW kW cW _ rfl (HW5.out.but ((But.refl [] w5).alloc (.cells #[.string t] 9)) (by simp)) t w5.heap.size 1 rfl (by rw [World.cell?_alloc_mark]; rfl) HKk.out ?_
                   intro wb6 a6 cap6 w6 hown6 hb6 hg6
                   have HR6 : Hid (Run w w6 dB sB mB (r + 4) d5 lB rb5 cB 0 (r + 2) (r + 2) (r + 3) c (L.add t) (2 + 2 * (k : Int) + 1)) := Lib.hid (Run.but HR5.out (((But.refl [wb] w5).alloc (.cells #[.string t] 9)).trans hb6) (by have := HNw5.out; simp; omega) (by have := HNw5.out; simp; omega) (by have := HNw.out; simp; omega))
                   have HW6 : Hid (OwnT w6 wb6 a6 (kW + 1) cap6 ((L.add t).rs.map (·.s))) := Lib.hid (by rw [add_map]; exact hown6)
                   have HNw6 : Hid (w.heap.size ≤ wb6 ∧ wb6 ≠ dB ∧ wb6 ≠ sB ∧ wb6 ≠ mB ∧ wb6 ≠ lB ∧ wb6 ≠ rb5 ∧ wb6 ≠ cB) := Lib.hid (by
                     have h0 := HNw5.out
                     have h1 := HNw.out.1
                     have h2 := HR5.out.be.size
                     have h3 := HR5.out.dv.ltD
                     have h4 := HR5.out.dv.lt
                     have h5 := HR5.out.dv.pend.lt
                     have h6 := HR5.out.lg.la.lt
                     have h7 := HR5.out.lg.ca.lt
                     rcases hg6 with z | z
                     · rw [z]; exact ⟨h1, h0⟩
                     · simp at z; omega)
                   clear hown6 hb6 hg6
                   obtain ⟨k0, hk0e⟩ : ∃ k0, k0 = kW := ⟨kW, rfl⟩
                   subst hk0e
                   have hwl := HW6.out.1
                   have hrl : (L.add t).rs.length = k0 + 1 := by rw [List.length_map] at hwl; omega
                   obtain ⟨ow, how⟩ := HW6.out.at
                   have hl0 : ∃ t0 lt0, (L.add t).rs.map (·.s) = t0 :: lt0 := by
                     cases hm : (L.add t).rs.map (·.s) with
                     | nil => rw [hm] at hwl; simp at hwl
                     | cons t0 lt0 => exact ⟨t0, lt0, rfl⟩
                   obtain ⟨t0, lt0, hl0⟩ := hl0
                   have hcr : M.cutR (L.add t) 1 = 0 := if_pos (by omega)
                   have hcl : M.cutL (L.add t) 1 = (L.add t).cut 1 := if_pos (by omega)
                   have HHd : Hid (Calls Try.prog 13 #[.pointer (some ⟨lB, 0, none⟩)] w6 fun e w' => e = .returned (.int .i64 L.head) ∧ w6 = w') := Lib.hid (by have := head_lg w6 HR6.out.lg; exact this)
                   have hT := HR6.out.trim' (by have := HKn.out; omega) 1 (x := L.head + 1) rfl
                   rw [hcr, hcl] at hT
                   have HT := Lib.hid hT
                   have HMc := Lib.hid (cut_map (L.add t) hl0)
                   have HCc : Hid (OwnT w6 wb6 (if cap6 = 1 then some ⟨wb6, ow, none⟩ else some ⟨wb6, ow + 1, none⟩) k0 (cap6 - 1) lt0) := Lib.hid (by have := HW6.out; rw [hl0, how] at this; exact this.cut)
                   have hkc : (k0 : Int) + 1 ≤ (cap6 : Int) := by have := HW6.out.2.1; omega
                   have HNz := Lib.hid HNw6.out
                   clear hwl hrl hl0 hcr hcl hT
                   subst how)
                | (go_at_call 13; with_reducible refine HHd.out.mono ?_; rintro e w' ⟨rfl, rfl⟩)
                | (go_at_call 12; with_reducible refine HT.out.mono ?_; rintro e w7 ⟨d7, c7, rfl, hR7, hb7, _⟩
                   have HR7 := Lib.hid hR7
                   have HW7 : Hid (OwnT w7 wb6 (if cap6 = 1 then some ⟨wb6, ow, none⟩ else some ⟨wb6, ow + 1, none⟩) k0 (cap6 - 1) (((L.add t).cut 1).rs.map (·.s))) := Lib.hid (by rw [HMc.out]; exact HCc.out.but hb7 (by have := HNz.out; simp; omega))
                   clear hR7 hb7
                   have hk9 : ((L.add t).cut 1).rs.length = k0 := by have := HW7.out.1; rw [List.length_map] at this; exact this
                   have hRc9 := HR7.out.records
                   rw [hk9] at hRc9
                   have HRc9 := Lib.hid hRc9
                   have HF9 : Hid (∀ w', Below w7.heap.size w7 w' → Calls Try.prog 16 #[.pointer (some ⟨lB, 0, none⟩)] w' fun e w'' => e = .returned (.int .i64 ((r : Int) + 2 - ((k0 : Nat) : Int))) ∧ Below w7.heap.size w7 w'') := Lib.hid (fun w' hb => by
                     refine (free_lg w' (HR7.out.below hb).lg).mono ?_
                     rintro e w'' ⟨rfl, j, rfl⟩
                     rw [hk9]
                     exact ⟨by rw [show (((r + 2 : Nat) : Int)) = (r : Int) + 2 by omega], below_dn hb j⟩)
                   have HKw : Hid (k0 ≤ 1000000) := Lib.hid (by have := HR7.out.lg.gd.ring.len; have := Hr.out; omega)
                   have HWf := Lib.hid HW7.out
                   clear hk9 hRc9)
                | (go_at_call 15; with_reducible refine HRc9.out.mono ?_; rintro e w9 ⟨a9, c9, rfl, hown9, hb9⟩
                   have HB9 : Hid (Below w7.heap.size w7 w9) := Lib.hid hb9
                   have HSm := Lib.hid (same_yes w9 a9 _ (k0) c9 _ _ (C.own_row hown9).1 (HWf.out.but (But.of_below hb9) (by simp)).row HKw.out)
                   clear hown9 hb9)
                | (go_at_call 14; with_reducible refine HSm.out.mono ?_; rintro e wx ⟨rfl, jx, rfl⟩
                   have hqx := below_dn HB9.out jx)
                | (go_at_call 16; with_reducible refine (HF9.out _ hqx).mono ?_; rintro e wy ⟨rfl, hqy⟩))
              go_roundw
              case rel => exact ⟨k + 1, d7, rb5, c7, (L.add t).cut 1, wb6, (if cap6 = 1 then some ⟨wb6, ow, none⟩ else some ⟨wb6, ow + 1, none⟩), k0, cap6 - 1, by have := HKn.out; omega, by have := HKn.out; omega, rfl, by go_num, (HR7.out.below hqy).mono (by omega), HW7.out.but (But.of_below hqy) (by simp), HNw6.out⟩
              case measure => have := HKn.out; simp [intOf]; omega
            · have hst2 : ¬ x2 < (kW : Int) + 1 := hst
              go_wp2_with (first
                | (go_at_call 11; with_reducible refine HAp.out.mono ?_; rintro e w5 ⟨d5, rb5, rfl, hR5, hb5, hr5, _⟩
                   have HR5 := Lib.hid hR5
                   have HW5 := Lib.hid (HWt.out.but hb5 (by have := HNw.out; simp; omega))
                   have HNw5 : Hid (wb ≠ dB ∧ wb ≠ sB ∧ wb ≠ mB ∧ wb ≠ lB ∧ wb ≠ rb5 ∧ wb ≠ cB) := Lib.hid (by have := HNw.out; have := HWt.out.lt; omega)
                   have hct5 := HCt.out _ hR5.be
                   clear hR5 hb5 hr5)
                | (at_builtin
                   refine wpList_append_tail _ rfl (.tmp 85) (.tmp 90) rfl wb aW kW cW _ rfl (HW5.out.but ((But.refl [] w5).alloc (.cells #[.string t] 9)) (by simp)) t w5.heap.size 1 rfl (by rw [World.cell?_alloc_mark]; rfl) HKk.out ?_
                   intro wb6 a6 cap6 w6 hown6 hb6 hg6
                   have HR6 : Hid (Run w w6 dB sB mB (r + 4) d5 lB rb5 cB 0 (r + 2) (r + 2) (r + 3) c (L.add t) (2 + 2 * (k : Int) + 1)) := Lib.hid (Run.but HR5.out (((But.refl [wb] w5).alloc (.cells #[.string t] 9)).trans hb6) (by have := HNw5.out; simp; omega) (by have := HNw5.out; simp; omega) (by have := HNw.out; simp; omega))
                   have HW6 : Hid (OwnT w6 wb6 a6 (kW + 1) cap6 ((L.add t).rs.map (·.s))) := Lib.hid (by rw [add_map]; exact hown6)
                   have HNw6 : Hid (w.heap.size ≤ wb6 ∧ wb6 ≠ dB ∧ wb6 ≠ sB ∧ wb6 ≠ mB ∧ wb6 ≠ lB ∧ wb6 ≠ rb5 ∧ wb6 ≠ cB) := Lib.hid (by
                     have h0 := HNw5.out
                     have h1 := HNw.out.1
                     have h2 := HR5.out.be.size
                     have h3 := HR5.out.dv.ltD
                     have h4 := HR5.out.dv.lt
                     have h5 := HR5.out.dv.pend.lt
                     have h6 := HR5.out.lg.la.lt
                     have h7 := HR5.out.lg.ca.lt
                     rcases hg6 with z | z
                     · rw [z]; exact ⟨h1, h0⟩
                     · simp at z; omega)
                   clear hown6 hb6 hg6
                   have hk9 : (L.add t).rs.length = kW + 1 := by have := HW6.out.1; rw [List.length_map] at this; exact this
                   have hRc9 := HR6.out.records
                   rw [hk9] at hRc9
                   have HRc9 := Lib.hid hRc9
                   have HF9 : Hid (∀ w', Below w6.heap.size w6 w' → Calls Try.prog 16 #[.pointer (some ⟨lB, 0, none⟩)] w' fun e w'' => e = .returned (.int .i64 ((r : Int) + 2 - ((kW + 1 : Nat) : Int))) ∧ Below w6.heap.size w6 w'') := Lib.hid (fun w' hb => by
                     refine (free_lg w' (HR6.out.below hb).lg).mono ?_
                     rintro e w'' ⟨rfl, j, rfl⟩
                     rw [hk9]
                     exact ⟨by rw [show (((r + 2 : Nat) : Int)) = (r : Int) + 2 by omega], below_dn hb j⟩)
                   have HKw : Hid (kW + 1 ≤ 1000000) := Lib.hid (by have := HR6.out.lg.gd.ring.len; have := Hr.out; omega)
                   have HWf := Lib.hid HW6.out
                   clear hk9 hRc9)
                | (go_at_call 15; with_reducible refine HRc9.out.mono ?_; rintro e w9 ⟨a9, c9, rfl, hown9, hb9⟩
                   have HB9 : Hid (Below w6.heap.size w6 w9) := Lib.hid hb9
                   have HSm := Lib.hid (same_yes w9 a9 _ (kW + 1) c9 _ _ (C.own_row hown9).1 (HWf.out.but (But.of_below hb9) (by simp)).row HKw.out)
                   clear hown9 hb9)
                | (go_at_call 14; with_reducible refine HSm.out.mono ?_; rintro e wx ⟨rfl, jx, rfl⟩
                   have hqx := below_dn HB9.out jx)
                | (go_at_call 16; with_reducible refine (HF9.out _ hqx).mono ?_; rintro e wy ⟨rfl, hqy⟩))
              go_roundw
              case rel => exact ⟨k + 1, d5, rb5, c, L.add t, wb6, _, kW + 1, _, by have := HKn.out; omega, by have := HKn.out; omega, rfl, by go_num, (HR6.out.below hqy).mono (by omega), HW6.out.but (But.of_below hqy) (by simp), HNw6.out⟩
              case measure => have := HKn.out; simp [intOf]; omega
          · have hfI : decide ((kW : Int) < (r : Int) + 2) = false := by simp; omega
            have e1 : M.appR (r + 2) L t = 12 := by unfold M.appR; rw [if_neg hbig, if_pos (by omega)]
            rw [e1, M.appL_no (by decide)] at HAp
            clear hbig e1 hful hkl
            have hh1 : 1 ≤ L.head := HR.out.lg.gd.ring.h1
            have hh2 : L.head ≤ 1000 := by have h9 := HR.out.lg.gd.tail; unfold M.Lg.tail at h9; have := HKn.out; omega
            go_wp2_with fail
            refine HAp.out.mono ?_
            rintro e w5 ⟨d5, rb5, rfl, hR5, hb5, hr5, _⟩
            have HR5 := Lib.hid hR5
            have HW5 := Lib.hid (HWt.out.but hb5 (by have := HNw.out; simp; omega))
            have HNw5 : Hid (wb ≠ dB ∧ wb ≠ sB ∧ wb ≠ mB ∧ wb ≠ lB ∧ wb ≠ rb5 ∧ wb ≠ cB) := Lib.hid (by have := HNw.out; have := HWt.out.lt; omega)
            clear hR5 hb5 hr5 HAp
            by_cases hst : x2 < (kW : Int)
            · obtain ⟨k0, rfl⟩ : ∃ k0, kW = k0 + 1 := ⟨kW - 1, by omega⟩
              have hst2 : x2 < (k0 : Int) + 1 := by omega
              have hk0I : (0 : Int) ≤ (k0 : Int) := by omega
              have hk9I : (k0 : Int) ≤ 1000 := by omega
              have hfI2 : decide ((k0 : Int) + 1 < (r : Int) + 2) = false := by simp at hfI ⊢; omega
              clear hst
              have hwl := HW5.out.1
              have hrl : (L).rs.length = k0 + 1 := by rw [List.length_map] at hwl; omega
              obtain ⟨ow, how⟩ := HW5.out.at
              have hl0 : ∃ t0 lt0, (L).rs.map (·.s) = t0 :: lt0 := by
                cases hm : (L).rs.map (·.s) with
                | nil => rw [hm] at hwl; simp at hwl
                | cons t0 lt0 => exact ⟨t0, lt0, rfl⟩
              obtain ⟨t0, lt0, hl0⟩ := hl0
              have hcr : M.cutR (L) 1 = 0 := if_pos (by omega)
              have hcl : M.cutL (L) 1 = (L).cut 1 := if_pos (by omega)
              have HHd : Hid (Calls Try.prog 13 #[.pointer (some ⟨lB, 0, none⟩)] w5 fun e w' => e = .returned (.int .i64 L.head) ∧ w5 = w') := Lib.hid (by have := head_lg w5 HR5.out.lg; exact this)
              have hT := HR5.out.trim' (by have := HKn.out; omega) 1 (x := L.head + 1) rfl
              rw [hcr, hcl] at hT
              have HT := Lib.hid hT
              have HMc := Lib.hid (cut_map (L) hl0)
              have HCc : Hid (OwnT w5 wb (if cW = 1 then some ⟨wb, ow, none⟩ else some ⟨wb, ow + 1, none⟩) k0 (cW - 1) lt0) := Lib.hid (by have := HW5.out; rw [hl0, how] at this; exact this.cut)
              have hkc : (k0 : Int) + 1 ≤ (cW : Int) := by have := HW5.out.2.1; omega
              have HNz := Lib.hid HNw5.out
              clear hwl hrl hl0 hcr hcl hT
              subst how
              go_wp2_with (first
                | (go_at_call 13; with_reducible refine HHd.out.mono ?_; rintro e w' ⟨rfl, rfl⟩)
                | (go_at_call 12; with_reducible refine HT.out.mono ?_; rintro e w7 ⟨d7, c7, rfl, hR7, hb7, _⟩
                   have HR7 := Lib.hid hR7
                   have HW7 : Hid (OwnT w7 wb (if cW = 1 then some ⟨wb, ow, none⟩ else some ⟨wb, ow + 1, none⟩) k0 (cW - 1) (((L).cut 1).rs.map (·.s))) := Lib.hid (by rw [HMc.out]; exact HCc.out.but hb7 (by have := HNz.out; simp; omega))
                   clear hR7 hb7
                   have hk9 : ((L).cut 1).rs.length = k0 := by have := HW7.out.1; rw [List.length_map] at this; exact this
                   have hRc9 := HR7.out.records
                   rw [hk9] at hRc9
                   have HRc9 := Lib.hid hRc9
                   have HF9 : Hid (∀ w', Below w7.heap.size w7 w' → Calls Try.prog 16 #[.pointer (some ⟨lB, 0, none⟩)] w' fun e w'' => e = .returned (.int .i64 ((r : Int) + 2 - ((k0 : Nat) : Int))) ∧ Below w7.heap.size w7 w'') := Lib.hid (fun w' hb => by
                     refine (free_lg w' (HR7.out.below hb).lg).mono ?_
                     rintro e w'' ⟨rfl, j, rfl⟩
                     rw [hk9]
                     exact ⟨by rw [show (((r + 2 : Nat) : Int)) = (r : Int) + 2 by omega], below_dn hb j⟩)
                   have HKw : Hid (k0 ≤ 1000000) := Lib.hid (by have := HR7.out.lg.gd.ring.len; have := Hr.out; omega)
                   have HWf := Lib.hid HW7.out
                   clear hk9 hRc9)
                | (go_at_call 15; with_reducible refine HRc9.out.mono ?_; rintro e w9 ⟨a9, c9, rfl, hown9, hb9⟩
                   have HB9 : Hid (Below w7.heap.size w7 w9) := Lib.hid hb9
                   have HSm := Lib.hid (same_yes w9 a9 _ (k0) c9 _ _ (C.own_row hown9).1 (HWf.out.but (But.of_below hb9) (by simp)).row HKw.out)
                   clear hown9 hb9)
                | (go_at_call 14; with_reducible refine HSm.out.mono ?_; rintro e wx ⟨rfl, jx, rfl⟩
                   have hqx := below_dn HB9.out jx)
                | (go_at_call 16; with_reducible refine (HF9.out _ hqx).mono ?_; rintro e wy ⟨rfl, hqy⟩))
              go_roundw
              case rel => exact ⟨k + 1, d7, rb5, c7, L.cut 1, wb, (if cW = 1 then some ⟨wb, ow, none⟩ else some ⟨wb, ow + 1, none⟩), k0, cW - 1, by have := HKn.out; omega, by have := HKn.out; omega, rfl, by go_num, (HR7.out.below hqy).mono (by omega), HW7.out.but (But.of_below hqy) (by simp), ⟨HNw.out.1, HNw5.out⟩⟩
              case measure => have := HKn.out; simp [intOf]; omega
            · have hst2 : ¬ x2 < (kW : Int) := hst
              clear hst
              have hk9 : (L).rs.length = kW := by have := HW5.out.1; rw [List.length_map] at this; exact this
              have hRc9 := HR5.out.records
              rw [hk9] at hRc9
              have HRc9 := Lib.hid hRc9
              have HF9 : Hid (∀ w', Below w5.heap.size w5 w' → Calls Try.prog 16 #[.pointer (some ⟨lB, 0, none⟩)] w' fun e w'' => e = .returned (.int .i64 ((r : Int) + 2 - ((kW : Nat) : Int))) ∧ Below w5.heap.size w5 w'') := Lib.hid (fun w' hb => by
                refine (free_lg w' (HR5.out.below hb).lg).mono ?_
                rintro e w'' ⟨rfl, j, rfl⟩
                rw [hk9]
                exact ⟨by rw [show (((r + 2 : Nat) : Int)) = (r : Int) + 2 by omega], below_dn hb j⟩)
              have HKw : Hid (kW ≤ 1000000) := Lib.hid (by have := HR5.out.lg.gd.ring.len; have := Hr.out; omega)
              have HWf := Lib.hid HW5.out
              clear hk9 hRc9
              go_wp2_with (first
                | (go_at_call 15; with_reducible refine HRc9.out.mono ?_; rintro e w9 ⟨a9, c9, rfl, hown9, hb9⟩
                   have HB9 : Hid (Below w5.heap.size w5 w9) := Lib.hid hb9
                   have HSm := Lib.hid (same_yes w9 a9 _ (kW) c9 _ _ (C.own_row hown9).1 (HWf.out.but (But.of_below hb9) (by simp)).row HKw.out)
                   clear hown9 hb9)
                | (go_at_call 14; with_reducible refine HSm.out.mono ?_; rintro e wx ⟨rfl, jx, rfl⟩
                   have hqx := below_dn HB9.out jx)
                | (go_at_call 16; with_reducible refine (HF9.out _ hqx).mono ?_; rintro e wy ⟨rfl, hqy⟩))
              go_roundw
              case rel => exact ⟨k + 1, d5, rb5, c, L, wb, _, kW, _, by have := HKn.out; omega, by have := HKn.out; omega, rfl, by go_num, (HR5.out.below hqy).mono (by omega), HW5.out.but (But.of_below hqy) (by simp), ⟨HNw.out.1, HNw5.out⟩⟩
              case measure => have := HKn.out; simp [intOf]; omega

set_option maxRecDepth 100000 in
theorem lifted (os : Os) (started : os.Started) (H : Type) (enc : TypeId × Value → H) :
    ReturnsInHanded {} Try.checked os 3 .any (Rows.logRingSpec.pre6 enc Try.prog Try.f3 Rows.logRingRow.domain false) (Rows.logRingSpec.post enc Try.prog Try.f3 false true false false) := by
  refine returnsInHanded_of_change (C := Try.checked) own started (by kernel_rfl) Try.func3
    (ChangeSpec.witness6 (enc := enc) (C := Try.checked) false ⟨#[], #[.int .u8 0, .slice none 0 0, .int .u8 0], []⟩ 8 (by kernel_rfl) (by kernel_rfl) (by kernel_rfl) (by kernel_rfl)) ?_
  intro W base args ds gs before hval0 hW hcnd _
  have hval : ∀ (j : Nat) t v, Try.f3.params[j]? = some t → args[j]? = some v → Value.okWide Try.prog W .any base t v := hval0
  have hW' := hW
  obtain ⟨p, q, hA0, hV, rfl, hfz, hnd⟩ := hW
  have hA : DataW.TrodAll enc Try.prog W 0 (fun _ => true) true Try.f3.params.toList args.toList ds p := hA0
  rw [Try.params3] at hA hval
  obtain ⟨v0, vs0, d0, ds0, p0, q0, hargs, rfl, rfl, h0, r0'⟩ := trodAll_cons hA
  obtain ⟨v1, vs1, d1, ds1, p1, q1, rfl, rfl, rfl, h1, r1'⟩ := trodAll_cons r0'
  obtain ⟨v2, vs2, d2, ds2, p2, q2, rfl, rfl, rfl, h2, r2'⟩ := trodAll_cons r1'
  obtain ⟨rfl, rfl, rfl⟩ := trodAll_nil r2'
  obtain rfl : args = #[v0, v1, v2] := by cases args; simp_all
  obtain ⟨rfl, rfl⟩ := trodVars_none hV
  obtain ⟨x0, rfl, rfl, rfl, w0⟩ := open_int Try.underlying5 (hval 0 5 v0 rfl rfl) h0
  have k1 := h1
  have lt1 : ∀ x ∈ p1, x.block < W.heap.size := by obtain ⟨m, hm⟩ := k1; exact DataW.trod_lt m _ _ _ hm
  obtain ⟨a1, n1, c1, l1, rfl, w1⟩ := open_strs h1 (okWide_slice Try.underlying22 (hval 1 22 v1 rfl rfl))
  obtain ⟨x2, rfl, rfl, rfl, w2⟩ := open_int Try.underlying5 (hval 2 5 v2 rfl rfl) h2
  clear hA0 hval0
  refine (walk x0 a1 n1 c1 l1 x2 W w0 w1 w2).mono fun e W' ⟨he, bel⟩ => ?_
  subst he
  exact ⟨_, rfl, _, _, _, [], _, [], hW', trodAll_mk1 (shut_bool Try.underlying4 _), (trodAll_cons_mk (shut_int Try.underlying5 w0) (trodAll_cons_mk (Below.trod laidOut (by kernel_rfl) (of_decide_eq_true (by kernel_rfl)) k1 bel lt1) (trodAll_cons_mk (shut_int Try.underlying5 w2) trodAll_mk0))), rfl, bel.frame _, fun h => by cases h⟩

theorem over : Rows.logRingRow.holds Try.pinned (OpenSpec.ofChange Rows.logRingSpec) :=
  OpenClaim.holds_of_wide 3 Try.f3 rfl rfl rfl rfl rfl rfl rfl ⟨rfl, rfl, rfl, rfl, rfl⟩ rfl rfl rfl rfl rfl (by kernel_rfl) Try.func3 (by kernel_rfl)
    (of_decide_eq_true (by kernel_rfl)) (by unfold Func.isWrapper; first | (rw [if_pos (by decide +kernel)]; kernel_rfl) | (rw [if_neg (by decide +kernel)]; exact ⟨rfl, rfl⟩))
    (fun os started H enc _ => lifted os started H enc)

/-- the statement -/
theorem proved : Rows.LogRingSaid := over
#print axioms proved
end Go.Proofs.Ytbmgaopdahlkkaa.logRing
