/-
  What reading a record does: it answers the record that the bytes begin with, or panics, where there is none. CONDITIONS: the reader holds a row of bytes.
-/
import Derived.Test.YtpoolpckabpnfaaGreatCRecs
import Derived.Deep.RegionHeld3
import Derived.RegionDies
import Derived.Deep.RegionLaw
import Derived.StillTactics
import Derived.WalkSpells
namespace Go.Proofs.YtpoolpckabpnfaaGreat.C
open Go.RowKit
set_option linter.unusedVariables false
set_option linter.unusedSimpArgs false
set_option maxRecDepth 20000

/-- so far ns were read, m is ahead -/
def RN (l m : List UInt8) (K k : Nat) (ns : List Int) : Prop :=
  ns.length = k ∧ M.rdNs K l = match M.rdNs (K - k) m with | some (r, x) => some (ns ++ r, x) | none => none
def RT (l m : List UInt8) (K k : Nat) (ts : List ByteArray) : Prop :=
  ts.length = k ∧ M.rdTs K l = match M.rdTs (K - k) m with | some (r, x) => some (ts ++ r, x) | none => none

theorem rn_start (l : List UInt8) (K : Nat) : RN l l K 0 [] := by
  refine ⟨rfl, ?_⟩
  rw [Nat.sub_zero]
  cases M.rdNs K l with
  | none => rfl
  | some x => rfl
theorem rt_start (l : List UInt8) (K : Nat) : RT l l K 0 [] := by
  refine ⟨rfl, ?_⟩
  rw [Nat.sub_zero]
  cases M.rdTs K l with
  | none => rfl
  | some x => rfl
theorem rn_on {l m m' : List UInt8} {K k : Nat} {ns : List Int} {v : Int} (hk : k < K) (h : RN l m K k ns) (hr : M.rdN m = some (v, m')) : RN l m' K (k + 1) (ns ++ [v]) := by
  obtain ⟨h1, h2⟩ := h
  refine ⟨by simp [h1], ?_⟩
  rw [h2, show K - k = (K - (k + 1)) + 1 from by omega]
  simp only [M.rdNs, hr]
  cases M.rdNs (K - (k + 1)) m' with
  | none => rfl
  | some x => simp
theorem rt_on {l m m' : List UInt8} {K k : Nat} {ns : List ByteArray} {v : ByteArray} (hk : k < K) (h : RT l m K k ns) (hr : M.rdT m = some (v, m')) : RT l m' K (k + 1) (ns ++ [v]) := by
  obtain ⟨h1, h2⟩ := h
  refine ⟨by simp [h1], ?_⟩
  rw [h2, show K - k = (K - (k + 1)) + 1 from by omega]
  simp only [M.rdTs, hr]
  cases M.rdTs (K - (k + 1)) m' with
  | none => rfl
  | some x => simp
theorem rn_no {l m : List UInt8} {K k : Nat} {ns : List Int} (hk : k < K) (h : RN l m K k ns) (hr : M.rdN m = none) : M.rdNs K l = none := by
  obtain ⟨h1, h2⟩ := h
  rw [h2, show K - k = (K - (k + 1)) + 1 from by omega]
  simp only [M.rdNs, hr]
theorem rt_no {l m : List UInt8} {K k : Nat} {ns : List ByteArray} (hk : k < K) (h : RT l m K k ns) (hr : M.rdT m = none) : M.rdTs K l = none := by
  obtain ⟨h1, h2⟩ := h
  rw [h2, show K - k = (K - (k + 1)) + 1 from by omega]
  simp only [M.rdTs, hr]
theorem rn_end {l m : List UInt8} {K : Nat} {ns : List Int} (h : RN l m K K ns) : M.rdNs K l = some (ns, m) := by
  obtain ⟨h1, h2⟩ := h
  rw [h2, Nat.sub_self]
  simp [M.rdNs]
theorem rt_end {l m : List UInt8} {K : Nat} {ns : List ByteArray} (h : RT l m K K ns) : M.rdTs K l = some (ns, m) := by
  obtain ⟨h1, h2⟩ := h
  rw [h2, Nat.sub_self]
  simp [M.rdTs]

def RPost (R : Nat) (w : World) (l : List UInt8) (e : Ending) (w' : World) : Prop :=
  (∃ (r : M.Rc) (x : List UInt8) (a : Option Addr) (n cap : Nat) (aT : Option Addr) (nT cT : Nat), M.rdR l = some (r, x) ∧ e = .returned (.agg #[.int .i64 r.kind, .slice a n cap, .slice aT nT cT]) ∧
    Own 2 w' w.heap.size a n cap (i64s r.nums) ∧ Own 9 w' w.heap.size aT nT cT (strs r.texts) ∧ At w' R x ∧ Mov R w.heap.size w w') ∨
  (M.rdR l = none ∧ e = .panicked [{ v := wrongs, recovered := false }] ∧ Below R w w')

theorem row_i64_new (w : World) (v : Int) : Row (w.alloc (.cells #[.int .i64 v] 2)) (some ⟨w.heap.size, 0, none⟩) 1 1 (i64s [v]) := by
  refine ⟨rfl, by omega, by simp [maxLen], .inr ⟨w.heap.size, 0, rfl, by simp, fun i hi => ?_⟩⟩
  have : i = 0 := by omega
  subst this
  rw [World.cell?_alloc_mark]
  rfl
theorem row_str_new (w : World) (v : ByteArray) : Row (w.alloc (.cells #[.string v] 9)) (some ⟨w.heap.size, 0, none⟩) 1 1 (strs [v]) := by
  refine ⟨rfl, by omega, by simp [maxLen], .inr ⟨w.heap.size, 0, rfl, by simp, fun i hi => ?_⟩⟩
  have : i = 0 := by omega
  subst this
  rw [World.cell?_alloc_mark]
  rfl

theorem at_drew {w : World} {R : Nat} {l : List UInt8} (h : At w R l) : At w.drew R l := h
theorem Stp.of_drew {R : Nat} {w w' : World} (h : Stp R w.drew w') : Stp R w w' := ⟨h.os, h.tape, h.output, h.size, h.block⟩

theorem step_append_i64 (w : World) {ops : Array Oper} {o : Oper} {act : Act} {K : Act → World → Prop} {Q : Exit → Act → World → Prop} {E : Prop} (hgd : o.guard = none) (s x : Operand)
    (ho : o.op = .call { callee := .builtin .append, args := #[s, x], argTypes := #[77, 77] })
    (B : Nat) (a : Option Addr) (n cap : Nat) (l : List Int) (hs : act.eval s = .slice a n cap) (hown : Own 2 w B a n cap (i64s l))
    (A : Option Addr) (m c : Nat) (y : List Int) (hx : act.eval x = .slice A m c) (hr : Row w A m c (i64s y)) (hsum : n + m ≤ 1048576) (hB : B ≤ w.heap.size)
    (h : ∀ a' cap' w', Own 2 w' B a' (n + m) cap' (i64s (l ++ y)) → Below B w w' → K (act.put o.dst (.slice a' (n + m) cap')) w') :
    if Region.wanted o (yielded ops act.tmps) = true then Oper.wp Tryz.prog o act w K Q else E := by
  have hw : Region.wanted o (yielded ops act.tmps) = true := by simp [Region.wanted, hgd]
  rw [if_pos hw]
  obtain ⟨a', cap', w', hrun, h2, h3, _, _⟩ := run_append_i64 w o.type B a n cap l hown A m c y hr hsum hB
  unfold Oper.wp execOp
  simp only [ho, resolve, invoke, builtin, Sem.run_bind, Sem.run_pure, Result.andThen_ok, List.map_toArray, List.map_cons, List.map_nil, hs, hx, hrun]
  exact h a' cap' w' h2 h3

theorem step_append_str (w : World) {ops : Array Oper} {o : Oper} {act : Act} {K : Act → World → Prop} {Q : Exit → Act → World → Prop} {E : Prop} (hgd : o.guard = none) (s x : Operand)
    (ho : o.op = .call { callee := .builtin .append, args := #[s, x], argTypes := #[78, 78] })
    (B : Nat) (a : Option Addr) (n cap : Nat) (l : List ByteArray) (hs : act.eval s = .slice a n cap) (hown : Own 9 w B a n cap (strs l))
    (A : Option Addr) (m c : Nat) (y : List ByteArray) (hx : act.eval x = .slice A m c) (hr : Row w A m c (strs y)) (hsum : n + m ≤ 1048576) (hB : B ≤ w.heap.size)
    (h : ∀ a' cap' w', Own 9 w' B a' (n + m) cap' (strs (l ++ y)) → Below B w w' → w.grownBy w' (Value.slice a n cap).ownBlock →
      ((Value.slice a' (n + m) cap').ownBlock = (Value.slice a n cap).ownBlock ∨ (Value.slice a' (n + m) cap').ownBlock = some w.heap.size) → K (act.put o.dst (.slice a' (n + m) cap')) w') :
    if Region.wanted o (yielded ops act.tmps) = true then Oper.wp Tryz.prog o act w K Q else E := by
  have hw : Region.wanted o (yielded ops act.tmps) = true := by simp [Region.wanted, hgd]
  rw [if_pos hw]
  obtain ⟨a', cap', w', hrun, h2, h3, h4, h5⟩ := run_append_str w o.type B a n cap l hown A m c y hr hsum hB
  unfold Oper.wp execOp
  simp only [ho, resolve, invoke, builtin, Sem.run_bind, Sem.run_pure, Result.andThen_ok, List.map_toArray, List.map_cons, List.map_nil, hs, hx, hrun]
  exact h a' cap' w' h2 h3 h4 h5

theorem run31 (w : World) (v : Value) : (callFunc 97 #[v]).run Tryz.prog w = .ok (.enter 97 #[v]) w := by
  go_simp

theorem step_call31 (w : World) {ops : Array Oper} {o : Oper} {act : Act} {K : Act → World → Prop} {Q : Exit → Act → World → Prop} {E : Prop} (hgd : o.guard = none) (x : Operand)
    (ho : o.op = .call { callee := .value (.func 97), args := #[x], argTypes := #[146] }) (v : Value) (hx : act.eval x = v) (u : Value) {p : World → Prop}
    (hc : Calls Tryz.prog 97 #[v] w fun e w' => e = .returned u ∧ p w') (h : ∀ w', p w' → K (act.put o.dst u) w') :
    if Region.wanted o (yielded ops act.tmps) = true then Oper.wp Tryz.prog o act w K Q else E := by
  have hw : Region.wanted o (yielded ops act.tmps) = true := by simp [Region.wanted, hgd]
  rw [if_pos hw]
  have hrun : (execOp act.eval o).run Tryz.prog w = .ok (.enter 97 #[v]) w := by
    unfold execOp
    simp only [ho, resolve, invoke, Sem.run_bind, List.map_toArray, List.map_cons, List.map_nil, hx]
    rw [show act.eval (Operand.func 97) = .func (Fn.func 97) #[] #[] from rfl]
    simp [Deferred.ofValue, run31]
  unfold Oper.wp
  rw [hrun, Oper.upon_enter]
  exact hc.mono (fun e w' ⟨he, hp⟩ => by subst he; exact h w' hp)

theorem run32 (w : World) (v : Value) : (callFunc 98 #[v]).run Tryz.prog w = .ok (.enter 98 #[v]) w := by
  go_simp

theorem step_call32 (w : World) {ops : Array Oper} {o : Oper} {act : Act} {K : Act → World → Prop} {Q : Exit → Act → World → Prop} {E : Prop} (hgd : o.guard = none) (x : Operand)
    (ho : o.op = .call { callee := .value (.func 98), args := #[x], argTypes := #[146] }) (v : Value) (hx : act.eval x = v) (u : Value) {p : World → Prop}
    (hc : Calls Tryz.prog 98 #[v] w fun e w' => e = .returned u ∧ p w') (h : ∀ w', p w' → K (act.put o.dst u) w') :
    if Region.wanted o (yielded ops act.tmps) = true then Oper.wp Tryz.prog o act w K Q else E := by
  have hw : Region.wanted o (yielded ops act.tmps) = true := by simp [Region.wanted, hgd]
  rw [if_pos hw]
  have hrun : (execOp act.eval o).run Tryz.prog w = .ok (.enter 98 #[v]) w := by
    unfold execOp
    simp only [ho, resolve, invoke, Sem.run_bind, List.map_toArray, List.map_cons, List.map_nil, hx]
    rw [show act.eval (Operand.func 98) = .func (Fn.func 98) #[] #[] from rfl]
    simp [Deferred.ofValue, run32]
  unfold Oper.wp
  rw [hrun, Oper.upon_enter]
  exact hc.mono (fun e w' ⟨he, hp⟩ => by subst he; exact h w' hp)

theorem rs_start {w w1 w2 : World} {R : Nat} {q : Int} {l : List UInt8} (hR : R < w.heap.size) (h1 : Stp R (w.alloc (.cells #[.int .i64 0, .slice none 0 0, .slice none 0 0] 80)) w1) (hz : w1.heap.size = w.heap.size + 1)
    (h2 : Stp R (w1.alloc (.cells #[.int .i64 q, .slice none 0 0, .slice none 0 0] 80)) w2) (ha : At w2 R l) : RS w.heap.size R w w2 q none 0 0 [] none 0 0 [] l := by
  have b1 := (Below.refl w.heap.size w).alloc (Nat.le_refl _) (.cells #[.int .i64 0, .slice none 0 0, .slice none 0 0] 80)
  have b2 := (Below.refl w1.heap.size w1).alloc (Nat.le_refl _) (.cells #[.int .i64 q, .slice none 0 0, .slice none 0 0] 80)
  refine ⟨((((Mov.refl R w.heap.size w).below b1 (Nat.le_refl _)).stp h1).below b2 (by omega)).stp h2, hR, ?_, ?_, ?_, own_nil _ _ _, own_nil _ _ _, .inl rfl, ha⟩
  · have := h2.size
    have := b2.size
    simp at *
    omega
  · exact rec3_stp (rec3_below (rec3_stp (rec3_new w 0) h1 (by omega)) b2 (by omega)) h2 (by omega)
  · rw [← hz]
    exact rec3_stp (rec3_new w1 q) h2 (by omega)

theorem rdR_textsNo {kd c : UInt8} {l m : List UInt8} {ns : List Int} (h : M.rdNs (M.cN c.toNat) l = some (ns, m)) (h2 : M.rdTs (M.cT c.toNat) m = none) : M.rdR (kd :: c :: l) = none := by
  simp only [M.rdR, h, h2]
  split <;> rfl

theorem rdR_yes {kd c : UInt8} {l m x : List UInt8} {ns : List Int} {ts : List ByteArray} (h0 : M.cT c.toNat ≤ 4) (h : M.rdNs (M.cN c.toNat) l = some (ns, m)) (h2 : M.rdTs (M.cT c.toNat) m = some (ts, x)) :
    M.rdR (kd :: c :: l) = some (⟨kd.toNat, ns, ts⟩, x) := by
  simp only [M.rdR, h, h2]
  rw [if_pos h0]

theorem rdR_much {kd c : UInt8} {l : List UInt8} (h0 : ¬ M.cT c.toNat ≤ 4) : M.rdR (kd :: c :: l) = none := by
  simp only [M.rdR]
  rw [if_neg h0]

theorem below_twice {w w1 w2 : World} {R : Nat} {o o' : Obj} (hR : R < w.heap.size) (h1 : Stp R (w.alloc o) w1) (hz : w1.heap.size = w.heap.size + 1) (h2 : Below R (w1.alloc o') w2) : Below R w w2 :=
  ((((Below.refl R w).alloc (Nat.le_of_lt hR) o).trans h1.below).alloc (by omega) o').trans h2

theorem rs_end {N R : Nat} {w wr : World} {kd : Int} {a : Option Addr} {n cap : Nat} {nums : List Int} {aT : Option Addr} {nT cT : Nat} {texts : List ByteArray} {m : List UInt8}
    (h : RS N R w wr kd a n cap nums aT nT cT texts m) : 
    let w' := ((wr.setCell ⟨N, 0, none⟩ (.int .i64 kd)).setCell ⟨N, 1, none⟩ (.slice a n cap)).setCell ⟨N, 2, none⟩ (.slice aT nT cT)
    Own 2 w' N a n cap (i64s nums) ∧ Own 9 w' N aT nT cT (strs texts) ∧ At w' R m ∧ Mov R N w w' := by
  have hR := h.hR
  have b1 : Below N wr (((wr.setCell ⟨N, 0, none⟩ (.int .i64 kd)).setCell ⟨N, 1, none⟩ (.slice a n cap)).setCell ⟨N, 2, none⟩ (.slice aT nT cT)) :=
    (((Below.refl N wr).setCell (p := ⟨N, 0, none⟩) (Nat.le_refl _) _).setCell (p := ⟨N, 1, none⟩) (Nat.le_refl _) _).setCell (p := ⟨N, 2, none⟩) (Nat.le_refl _) _
  exact ⟨own_mono (own_set (own_set (own_set h.rn _ (by simp)) _ (by simp)) _ (by simp)) (by omega), own_mono (own_set (own_set (own_set h.rt _ (by simp)) _ (by simp)) _ (by simp)) (by omega), at_below h.rest b1 hR, h.mov.below b1 (Nat.le_refl _)⟩

theorem rdR_numsNo {kd c : UInt8} {l : List UInt8} (h : M.rdNs (M.cN c.toNat) l = none) : M.rdR (kd :: c :: l) = none := by
  simp only [M.rdR, h]
  split <;> rfl

set_option maxHeartbeats 2000000 in
theorem record_any (w : World) (R : Nat) (l : List UInt8) (h : At w R l) (hR : R < w.heap.size) :
    Calls Tryz.prog 85 #[.pointer (some ⟨R, 0, none⟩)] w (RPost R w l) := by
  cases l with
  | nil =>
    have H0 := Lib.hid (at_alloc h (.cells #[.int .i64 0, .slice none 0 0, .slice none 0 0] 80))
    have HR := Lib.hid hR
    clear h hR
    go_enter Tryz.func85, Tryz.ntmps85
    go_wp2_with (go_at_call 95; refine (next_no _ R H0.out).mono ?_; rintro e w1 ⟨rfl, hb⟩; have Hb := Lib.hid hb; clear hb)
    exact ⟨rfl, .inr ⟨rfl, rfl, ((Below.refl R w).alloc (Nat.le_of_lt HR.out) _).trans Hb.out⟩⟩
  | cons kd l =>
    cases l with
    | nil =>
      have hkd := kd.toNat_lt
      have H0 := Lib.hid (at_alloc h (.cells #[.int .i64 0, .slice none 0 0, .slice none 0 0] 80))
      have HN := fun (w1 : World) (h : At w1 R (kd :: [])) => next_ok w1 R kd [] h
      have HNh := Lib.hid HN
      have HCh := Lib.hid (fun (w1 : World) (h : At w1 R []) => counts_no w1 R [] h (fun c' r' he => by cases he))
      clear h HN
      generalize hq : kd.toNat = q at *
      have Hq := Lib.hid hq
      clear hq
      have hq1 : (q : Int) ≤ 256 := by omega
      have HR := Lib.hid hR
      clear hR hkd
      go_enter Tryz.func85, Tryz.ntmps85
      go_wp2_with (first
        | (go_at_call 95; refine (HNh.out _ H0.out).mono ?_; rintro e w1 ⟨rfl, hs, ha⟩; have Hs1 := Lib.hid hs; have hz1 : w1.heap.size = w.heap.size + 1 := (by have := hs.size; simpa using this); have Ha1 := Lib.hid (at_alloc ha (.cells #[.int .i64 (q : Int), .slice none 0 0, .slice none 0 0] 80)); clear hs ha)
        | (go_at_call 96; refine (HCh.out _ Ha1.out).mono ?_; rintro e w2 ⟨rfl, hb⟩; have Hb := Lib.hid hb; clear hb))
      exact ⟨rfl, .inr ⟨rfl, rfl, below_twice HR.out Hs1.out hz1 Hb.out⟩⟩
    | cons c l =>
      have hkd := kd.toNat_lt
      have H0 := Lib.hid (at_alloc h (.cells #[.int .i64 0, .slice none 0 0, .slice none 0 0] 80))
      have HN := fun (w1 : World) (h : At w1 R (kd :: c :: l)) => next_ok w1 R kd (c :: l) h
      clear h
      by_cases hc : M.cT c.toNat ≤ 4
      · have HC := fun (w1 : World) (h : At w1 R (c :: l)) => counts_ok w1 R c l h hc
        have HNh := Lib.hid HN
        have HCh := Lib.hid HC
        have Hc := Lib.hid hc
        clear HN HC hc
        generalize hq : kd.toNat = q at *
        have Hq := Lib.hid hq
        clear hq
        have hq1 : (q : Int) ≤ 256 := by omega
        generalize hK : M.cN c.toNat = K at *
        have HK := Lib.hid hK
        generalize hT : M.cT c.toNat = T at *
        have HT := Lib.hid hT
        clear hK hT
        have HR := Lib.hid hR
        have HK16 : Hid (K ≤ 16) := by have := HK.out; unfold M.cN at this; show K ≤ 16; split at this <;> omega
        clear hR hkd
        go_enter Tryz.func85, Tryz.ntmps85
        go_wp2_with (first
          | (go_at_call 95; refine (HNh.out _ H0.out).mono ?_; rintro e w1 ⟨rfl, hs, ha⟩; have Hs1 := Lib.hid hs; have hz1 : w1.heap.size = w.heap.size + 1 := (by have := hs.size; simpa using this); have Ha1 := Lib.hid (at_alloc ha (.cells #[.int .i64 (q : Int), .slice none 0 0, .slice none 0 0] 80)); clear hs ha)
          | (go_at_call 96; refine (HCh.out _ Ha1.out).mono ?_; rintro e w2 ⟨rfl, hs, ha⟩; have Hs2 := Lib.hid hs; have Ha2 := Lib.hid ha; clear hs ha))
        have Hz1 := Lib.hid hz1
        clear hz1
        have Hrs : Hid (RS w.heap.size R w w2 q none 0 0 [] none 0 0 [] l) := rs_start HR.out Hs1.out Hz1.out Hs2.out Ha2.out
        go_loopw [16] (fun i wr => ∃ (k : Nat) (ns : List Int) (m : List UInt8) (a : Option Addr) (cap : Nat), k ≤ K ∧ i = .int .i64 k ∧ RS w.heap.size R w wr q a k cap ns none 0 0 [] m ∧ RN l m K k ns) (fun i _ => K - (intOf i).toNat)
        case atStart => exact ⟨0, [], l, none, 0, by omega, rfl, Hrs.out, rn_start l K⟩
        case round =>
          obtain ⟨k, ns, m, a, cap, hk, rfl, hrs, hrn⟩ := hrel
          have Hr := Lib.hid hrs
          have Hn := Lib.hid hrn
          obtain ⟨c1, c2, c3, c4, c5, c6⟩ := hrs.own
          clear hrs hrn
          by_cases hlt : k < K
          · have hltI : (k : Int) < (K : Int) := by omega
            have hKI : (K : Int) ≤ 16 := by have := HK16.out; omega
            cases hv : M.rdN m with
            | none =>
              have HV := Lib.hid hv
              clear hv
              go_wp2_with fail
              go_region_dies
              all_goals
                refine (number_no _ R m (at_drew Hr.out.rest) HV.out).mono ?_
                rintro e w' ⟨rfl, hb⟩
                have Hb := Lib.hid hb
                clear hb
                exact ⟨rfl, .inr ⟨rdR_numsNo (HK.out ▸ rn_no hlt Hn.out HV.out), rfl, (Hr.out.mov.to_below (Nat.le_of_lt HR.out)).trans (Below.trans ((Below.refl _ _).drew) Hb.out)⟩⟩
            | some vm =>
              obtain ⟨v, m'⟩ := vm
              have HV := Lib.hid hv
              clear hv
              go_wp2_with fail
              go_region_law ((first
                  | (refine step_call31 _ rfl (.tmp 20) rfl _ rfl (.int .i64 v) (number_ok _ R m v m' (at_drew Hr.out.rest) HV.out) ?_
                     intro w3 ⟨hs, ha⟩
                     have Hr3 := Lib.hid (Hr.out.stp hs.of_drew ha)
                     have hc3 := Hr3.out.own.2.1
                     have hc3' := (Hr3.out.alloc (.cells #[.int .i64 v] 2)).own.2.1
                     clear hs ha)
                  | (refine step_append_i64 _ rfl (.tmp 19) (.tmp 22) rfl (w.heap.size + 2) a k cap ns rfl (Hr3.out.alloc _).rn _ 1 1 [v] rfl (row_i64_new _ v) (by have := HK16.out; omega) (Hr3.out.alloc _).size ?_
                     intro a4 cap4 w4 hown hbel
                     have hr4 := rec3_below (Hr3.out.alloc (.cells #[.int .i64 v] 2)).own hbel (by omega)
                     have hc4 := hr4.2.1
                     have hf4 := hr4.2.2.2.2.1
                     have Hr5 := Lib.hid ((Hr3.out.alloc (.cells #[.int .i64 v] 2)).num hown hbel)
                     clear hr4 hown hbel)))
              all_goals
                go_wp2_with fail
                go_roundw
                case rel => exact ⟨k + 1, ns ++ [v], m', a4, cap4, by omega, by go_num, Hr5.out, rn_on hlt Hn.out HV.out⟩
                case measure => simp [intOf]; omega
          · obtain rfl : k = K := by omega
            have HNs := Lib.hid (rn_end Hn.out)
            clear Hn c1 c2 c3 c4 c5 c6
            have hTI : (T : Int) ≤ 4 := by have := Hc.out; omega
            have hge : (k : Int) ≤ (k : Int) := Int.le_refl _
            go_wp2_with fail
            go_loopw [27] (fun i wr => ∃ (j : Nat) (ts : List ByteArray) (m2 : List UInt8) (aT : Option Addr) (capT : Nat), j ≤ T ∧ i = .int .i64 j ∧ RS w.heap.size R w wr q a k cap ns aT j capT ts m2 ∧ RT m m2 T j ts) (fun i _ => T - (intOf i).toNat)
            case atStart => exact ⟨0, [], m, none, 0, by omega, rfl, Hr.out, rt_start m T⟩
            case round =>
              clear Hr
              obtain ⟨j, ts, m2, aT, capT, hj, rfl, hrs, hrn⟩ := hrel
              have Hr := Lib.hid hrs
              have Hn := Lib.hid hrn
              obtain ⟨c1, c2, c3, c4, c5, c6⟩ := hrs.own
              obtain ⟨d1, d2, d3, d4, d5, d6⟩ := hrs.res
              clear hrs hrn
              by_cases hlt : j < T
              · have hltI : (j : Int) < (T : Int) := by omega
                cases hv : M.rdT m2 with
                | none =>
                  have HV := Lib.hid hv
                  clear hv
                  go_wp2_with fail
                  go_region_dies
                  all_goals
                    refine (text_no _ R m2 (at_drew Hr.out.rest) HV.out).mono ?_
                    rintro e w' ⟨rfl, hb⟩
                    have Hb := Lib.hid hb
                    clear hb
                    exact ⟨rfl, .inr ⟨rdR_textsNo (HK.out ▸ HNs.out) (HT.out ▸ rt_no hlt Hn.out HV.out), rfl, (Hr.out.mov.to_below (Nat.le_of_lt HR.out)).trans (Below.trans ((Below.refl _ _).drew) Hb.out)⟩⟩
                | some vm =>
                  obtain ⟨v, m'⟩ := vm
                  have HV := Lib.hid hv
                  clear hv
                  go_wp2_with fail
                  go_region_law ((first
                      | (refine step_call32 _ rfl (.tmp 31) rfl _ rfl (.string v) (text_ok _ R m2 v m' (at_drew Hr.out.rest) HV.out) ?_
                         intro w3 ⟨hs, ha⟩
                         have Hr3 := Lib.hid (Hr.out.stp hs.of_drew ha)
                         have hc3 := Hr3.out.own.2.2.1
                         have hc3' := (Hr3.out.alloc (.cells #[.string v] 9)).own.2.2.1
                         clear hs ha)
                      | (refine step_append_str _ rfl (.tmp 30) (.tmp 33) rfl (w.heap.size + 2) aT j capT ts rfl (Hr3.out.alloc _).rt _ 1 1 [v] rfl (row_str_new _ v) (by omega) (Hr3.out.alloc _).size ?_
                         intro a4 cap4 w4 hown hbel hgr hat
                         have hr4 := rec3_below (Hr3.out.alloc (.cells #[.string v] 9)).own hbel (by omega)
                         have hc4 := hr4.2.2.1
                         have hf4 := hr4.2.2.2.2.2
                         have Hr5 := Lib.hid ((Hr3.out.alloc (.cells #[.string v] 9)).text hown hbel hgr hat)
                         clear hr4 hown hbel hgr hat)))
                  all_goals
                    go_wp2_with fail
                    go_roundw
                    case rel => exact ⟨j + 1, ts ++ [v], m', a4, cap4, by omega, by go_num, Hr5.out, rt_on hlt Hn.out HV.out⟩
                    case measure => simp [intOf]; omega
              · obtain rfl : j = T := by omega
                have HTs := Lib.hid (rt_end Hn.out)
                clear Hn
                have hge2 : (j : Int) ≤ (j : Int) := Int.le_refl _
                go_wp2_with fail
                refine bodyPost_ret (v := .agg #[.int .i64 (q : Int), .slice a k cap, .slice aT j capT]) (by simp [results, Tryz.results85, go_sem, d1, d2, d3]) rfl ?_
                exact .inl ⟨⟨q, ns, ts⟩, m2, a, k, cap, aT, j, capT, by rw [← Hq.out]; exact rdR_yes (by rw [HT.out]; exact Hc.out) (HK.out ▸ HNs.out) (HT.out ▸ HTs.out), rfl, (rs_end Hr.out).1, (rs_end Hr.out).2.1, (rs_end Hr.out).2.2.1, (rs_end Hr.out).2.2.2⟩
      · have HC := fun (w1 : World) (h : At w1 R (c :: l)) => counts_no w1 R (c :: l) h (fun c' r' he => by injection he with he1 he2; subst he1; exact hc)
        have HNh := Lib.hid HN
        have HCh := Lib.hid HC
        have Hc := Lib.hid hc
        clear HN HC hc
        generalize hq : kd.toNat = q at *
        have Hq := Lib.hid hq
        clear hq
        have hq1 : (q : Int) ≤ 256 := by omega
        have HR := Lib.hid hR
        clear hR hkd
        go_enter Tryz.func85, Tryz.ntmps85
        go_wp2_with (first
          | (go_at_call 95; refine (HNh.out _ H0.out).mono ?_; rintro e w1 ⟨rfl, hs, ha⟩; have Hs1 := Lib.hid hs; have hz1 : w1.heap.size = w.heap.size + 1 := (by have := hs.size; simpa using this); have Ha1 := Lib.hid (at_alloc ha (.cells #[.int .i64 (q : Int), .slice none 0 0, .slice none 0 0] 80)); clear hs ha)
          | (go_at_call 96; refine (HCh.out _ Ha1.out).mono ?_; rintro e w2 ⟨rfl, hb⟩; have Hb := Lib.hid hb; clear hb))
        exact ⟨rfl, .inr ⟨rdR_much Hc.out, rfl, below_twice HR.out Hs1.out hz1 Hb.out⟩⟩
end Go.Proofs.YtpoolpckabpnfaaGreat.C
