/-
  A sender: Ack, in every case; Add, in every case.
-/
import Derived.Test.YtcnmkojlledipaaMrAdd
import Derived.Laws.IdiomCopy
namespace Go.Proofs.Ytcnmkojlledipaa.Mr
open Go.RowKit
set_option linter.unusedVariables false
set_option linter.unusedSimpArgs false
set_option maxRecDepth 20000

def zeros (k : Nat) : List Value := itms (List.replicate k ⟨0, 0, ⟨#[]⟩, 0, 0⟩)
theorem zeros_len (k : Nat) : (zeros k).length = k * 5 := by unfold zeros; rw [itms_length, List.length_replicate]
theorem zeros_is (k : Nat) : (Builtin.zeroCells #[.int .i64 0, .int .i64 0, .string ⟨#[]⟩, .int .i64 0, .int .i64 0] k).toList = zeros k := by
  apply List.ext_getElem?
  intro i
  by_cases hi : i < k * 5
  · have h2 : (List.replicate k (⟨0, 0, ⟨#[]⟩, 0, 0⟩ : It))[i / 5]? = some ⟨0, 0, ⟨#[]⟩, 0, 0⟩ := by
      rw [List.getElem?_replicate, if_pos (by omega)]
    obtain ⟨k0, k1, k2, k3, k4⟩ := itms_get h2
    have e0 : (Builtin.zeroCells #[.int .i64 0, .int .i64 0, .string ⟨#[]⟩, .int .i64 0, .int .i64 0] k).toList[i]? = some ((#[.int .i64 0, .int .i64 0, .string ⟨#[]⟩, .int .i64 0, .int .i64 0] : Array Value)[i % 5]!) := by
      simp [Builtin.zeroCells, hi]
    rw [e0]
    unfold zeros
    have h5 : i % 5 = 0 ∨ i % 5 = 1 ∨ i % 5 = 2 ∨ i % 5 = 3 ∨ i % 5 = 4 := by omega
    rcases h5 with h | h | h | h | h
    · rw [h, show i = i / 5 * 5 by omega, k0]; rfl
    · rw [h, show i = i / 5 * 5 + 1 by omega, k1]; rfl
    · rw [h, show i = i / 5 * 5 + 2 by omega, k2]; rfl
    · rw [h, show i = i / 5 * 5 + 3 by omega, k3]; rfl
    · rw [h, show i = i / 5 * 5 + 4 by omega, k4]; rfl
  · rw [List.getElem?_eq_none (by simp [Builtin.zeroCells]; omega), List.getElem?_eq_none (by rw [zeros_len]; omega)]
theorem zero_it (w : World) : (zeroValue 29).run Try.prog w = .ok (.agg #[.int .i64 0, .int .i64 0, .string ⟨#[]⟩, .int .i64 0, .int .i64 0]) w := by
  obtain ⟨i0, hi0, hz0, hz1, hz2⟩ := info_parts it_info
  simp [zeroValue, typeInfo, hi0, hz0]
theorem clear_itms (w : World) (ty : TypeId) (g o k c : Nat) (hk : 0 < k) (hc : ∀ j, j < k * 5 → (w.cell? ⟨g, o + j, none⟩).isSome = true) (hf : ∀ j, j < k * 5 → w.frozen? ⟨g, o + j, none⟩ = false) :
    (Builtin.clear_ #[36] ty #[.slice (some ⟨g, o, none⟩) k c]).run Try.prog w = .ok (.tuple #[]) (w.setCells g o (zeros k)) := by
  have hst := run_storeCells_cells (P := Try.prog) g o (zeros k) 0 w (by simpa [zeros_len] using hc) (by simpa [zeros_len] using hf) (itms_one _)
  simp only [Nat.add_zero] at hst
  have hz := zeros_is k
  obtain ⟨m, rfl⟩ : ∃ m, k = m + 1 := ⟨k - 1, by omega⟩
  have hcl : (Value.agg #[.int .i64 0, .int .i64 0, .string ⟨#[]⟩, .int .i64 0, .int .i64 0]).cells = #[.int .i64 0, .int .i64 0, .string ⟨#[]⟩, .int .i64 0, .int .i64 0] := by rfl
  simp [Builtin.clear_, run_underlying Try.underlying36, zero_it, hcl, hz, hst]

/-- a beginning of an own row is cleared: the rest is as it was -/
theorem OwnI.clear {w : World} {g off cap : Nat} {l : List It} (h : OwnI w (some ⟨g, off, none⟩) cap l) (k : Nat) (hk : k ≤ l.length) (hk0 : 0 < k) :
    ∃ w2, (∀ ty, (Builtin.clear_ #[36] ty #[.slice (some ⟨g, off, none⟩) k cap]).run Try.prog w = .ok (.tuple #[]) w2) ∧ OwnI w2 (some ⟨g, off + k * 5, none⟩) (cap - k) (l.drop k) ∧ OwnI w2 (some ⟨g, off, none⟩) 0 [] ∧ But [g] w w2 := by
  have hr := h.rest k hk
  have hn := h.none_left
  rcases h with ⟨h, _, _⟩ | ⟨g', off', cur, he, h1, h2, h3, h4, h5⟩
  · cases h
  · injection he with he
    injection he with e1 e2
    subst e1 e2
    have hcz : cur.toList.length = cur.size := Array.length_toList
    obtain ⟨cur', c1, c2, c3⟩ := obj_setCells (zeros k) off w cur h1 (by rw [zeros_len]; omega)
    refine ⟨w.setCells g off (zeros k), fun ty => clear_itms w ty g off k cap hk0 (fun j hj => ?_) (fun j hj => by simp [World.frozen?, h1]), .inr ⟨g, off + k * 5, cur', rfl, c1, by simp; omega, by omega, by omega, ?_⟩, .inr ⟨g, off, cur', rfl, c1, by simp, by simp, by omega, by simp [itms]⟩, ?_⟩
    · simp only [World.cell?, h1]
      rw [Array.getElem?_eq_getElem (by omega)]; rfl
    · have ht : (cur.toList.take off ++ zeros k).length = off + k * 5 := by rw [List.length_append, List.length_take, hcz, zeros_len]; omega
      rw [c3, zeros_len, ← ht, List.drop_left, ht]
      rw [← itms_drop, ← h5, List.drop_take, List.drop_drop, List.length_drop]
      congr 1
      omega
    · obtain ⟨e1, e2, e3⟩ := os_setCells g (zeros k) off w
      exact ⟨e1, e2, e3, Nat.le_of_eq (size_setCells _ _ _ _).symm, fun j _ hj => heap_setCells _ _ _ _ _ (fun e => hj (by simp [e]))⟩

/-- behind the clearing: the row's rest and the number are stored -/
theorem ack_fin {w2 : World} {p g : Nat} {A q : Int} {a'' : Option Addr} {n cap : Nat} {l'' : List It} {v : Value} (hp : w2.heap[p]? = some (.cells #[.int .i64 A, v] tS (0, 0))) (hg : g ≠ p) (hb : blk p a'' = g) (ho : OwnI w2 a'' cap l'') (hn : n = l''.length) (hq : 0 ≤ q ∧ last q l'' ≤ 4611686018427387904) :
    SAt ((w2.setCell ⟨p, 1, none⟩ (.slice a'' n cap)).setCell ⟨p, 0, none⟩ (.int .i64 q)) p q a'' l'' := by
  subst hn
  refine ⟨cap, by simp [World.setCell, Array.getElem?_modify, hp], ?_, hq⟩
  refine ho.of_block (p := p) ?_
  rw [hb, Below.heap_setCell _ _ _ _ hg, Below.heap_setCell _ _ _ _ hg]
section
variable {w : World} {p : Nat} {A : Int} {a : Option Addr} {l : List It}
theorem ack_low (h : SAt w p A a l) (q : Int) (hq : q ≤ A) : Calls Try.prog 14 #[.pointer (some ⟨p, 0, none⟩), .int .i64 q] w fun e w' => e = .returned (.bool false) ∧ ∃ n, w' = w.drewN n := by
  obtain ⟨cap, c0, c1, f0, f1, ho, k1, k2⟩ := h.cell
  clear h ho
  go_enter Try.func14, Try.ntmps14
  go_wp2
  go_ret
  exact ⟨rfl, 0, rfl⟩
theorem ack_high (h : SAt w p A a l) (q : Int) (hq : A < q) (hq2 : last A l < q) : Calls Try.prog 14 #[.pointer (some ⟨p, 0, none⟩), .int .i64 q] w fun e w' => e = .returned (.bool false) ∧ ∃ n, w' = w.drewN n := by
  obtain ⟨cap, c0, c1, f0, f1, ho, k1, k2⟩ := h.cell
  have HF := Lib.hid (last_any h)
  have hd : decide (q ≤ A) = false := by simp; omega
  simp only [last] at hq2
  clear h ho hq
  go_enter Try.func14, Try.ntmps14
  go_wp2_with (go_at_call 19; with_reducible refine HF.out.mono ?_; rintro e w' ⟨rfl, n, rfl⟩)
  go_ret
  exact ⟨rfl, n, rfl⟩
set_option maxHeartbeats 1000000 in
theorem ack_ok (h : SAt w p A a l) (q : Int) (hq : A < q) (hq2 : q ≤ last A l) : Calls Try.prog 14 #[.pointer (some ⟨p, 0, none⟩), .int .i64 q] w fun e w' => e = .returned (.bool true) ∧
    ∃ a', SAt w' p q a' (l.drop (q - A).toNat) ∧ blk p a' = blk p a ∧ But [p, blk p a] w w' := by
  obtain ⟨cap, c0, c1, f0, f1, ho, k1, k2⟩ := h.cell
  have hn := h.nums
  have hlt := h.lt
  simp only [last] at hq2
  obtain ⟨k, hk⟩ : ∃ k : Nat, (k : Int) = q - A := ⟨(q - A).toNat, by omega⟩
  have hk0 : 0 < k := by omega
  have hkl : k ≤ l.length := by omega
  have hkc : k ≤ cap := by omega
  have hne : ¬ a = none := by
    rintro rfl
    rcases ho with ⟨_, _, rfl⟩ | ⟨g, off, cur, h, _⟩
    · simp at hkl; omega
    · cases h
  obtain ⟨g, off, rfl⟩ : ∃ g off, a = some ⟨g, off, none⟩ := by
    rcases ho with ⟨h, _⟩ | ⟨g, off, cur, h, _⟩
    · exact absurd h hne
    · exact ⟨g, off, h⟩
  have hpg : g ≠ p := by
    obtain ⟨_, hp, _⟩ := h
    rcases row_ne ho hp (by decide) with h | h
    · cases h
    · exact h
  have hw : IntKind.i64.wrap (q - A) = (k : Int) := by rw [hk]; exact IntWalk.i64_in _ (by omega)
  rw [show (q - A).toNat = k by omega]
  have hd : decide (q ≤ A) = false := by simp; omega
  have hd2 : decide (A + (l.length : Int) < q) = false := by simp; omega
  have hkI : (0 : Int) ≤ (k : Int) := by omega
  have hkI2 : (k : Int) ≤ (cap : Int) := by omega
  have hkI3 : (k : Int) ≤ (l.length : Int) := by omega
  have HF := Lib.hid (last_any h)
  have HP : Hid (∃ cap, w.heap[p]? = some (.cells #[.int .i64 A, .slice (some ⟨g, off, none⟩) l.length cap] tS (0, 0))) := Lib.hid (by obtain ⟨c, hp, _⟩ := h; exact ⟨c, hp⟩)
  have HC : Hid (∀ n, ∃ w2, (∀ ty, (Builtin.clear_ #[36] ty #[.slice (some ⟨g, off, none⟩) k cap]).run Try.prog (w.drewN n) = .ok (.tuple #[]) w2) ∧ OwnI w2 (some ⟨g, off + k * 5, none⟩) (cap - k) (l.drop k) ∧ OwnI w2 (some ⟨g, off, none⟩) 0 [] ∧ But [g] (w.drewN n) w2) :=
    Lib.hid fun n => (ho.drew n).clear k hkl hk0
  have HN := Lib.hid (show 0 ≤ q ∧ last q (l.drop k) ≤ 4611686018427387904 by unfold last; rw [List.length_drop]; omega)
  have HK := Lib.hid hkl
  have HG := Lib.hid hpg
  have HL := Lib.hid hlt
  have HCL := Lib.hid k1
  have HLD := Lib.hid (show (l.drop k).length = l.length - k by simp)
  clear h ho hn hk hk0 hne hq hlt hpg
  by_cases hcap : k = cap
  · have hlen : l.length = k := by omega
    subst hcap
    go_enter Try.func14, Try.ntmps14
    go_wp2_with (go_at_call 19; with_reducible refine HF.out.mono ?_; rintro e w' ⟨rfl, n, rfl⟩
                 obtain ⟨w2, hcl, o1, o2, hb⟩ := HC.out n
                 have O1 := Lib.hid o1
                 have O2 := Lib.hid o2
                 have HB := Lib.hid hb
                 have d0 : w2.cell? ⟨p, 0, none⟩ = some (.int .i64 A) := (hb.cell (b := p) HL.out (by simp; exact HG.out.symm)).trans c0
                 have d1 : w2.cell? ⟨p, 1, none⟩ = some (.slice (some ⟨g, off, none⟩) l.length k) := (hb.cell (b := p) HL.out (by simp; exact HG.out.symm)).trans c1
                 have d2 : w2.frozen? ⟨p, 0, none⟩ = false := (hb.frozen (b := p) HL.out (by simp; exact HG.out.symm)).trans f0
                 have d3 : w2.frozen? ⟨p, 1, none⟩ = false := (hb.frozen (b := p) HL.out (by simp; exact HG.out.symm)).trans f1
                 clear o1 o2 hb)
    go_ret
    obtain ⟨c, hp⟩ := HP.out
    have hb := HB.out
    have hnil : l.drop k = [] := List.drop_eq_nil_of_le (by omega)
    have hN := HN.out
    rw [hnil] at hN ⊢
    refine ⟨rfl, some ⟨g, off, none⟩, ack_fin ((hb.block p HL.out (by simp; exact HG.out.symm)).trans hp) HG.out rfl O2.out rfl hN, rfl, ?_⟩
    have hb0 : But [p, g] w w2 := ⟨hb.os, hb.tape, hb.output, hb.size, fun j hj hn => hb.block j hj (fun hm => hn (List.mem_cons_of_mem _ hm))⟩
    exact (hb0.set _ (.inl (List.mem_cons_self ..))).set _ (.inl (List.mem_cons_self ..))
  · have hcap1 : ¬ cap = k := fun e => hcap e.symm
    have hcap2 : ¬ cap - k = 0 := by omega
    go_enter Try.func14, Try.ntmps14
    go_wp2_with (go_at_call 19; with_reducible refine HF.out.mono ?_; rintro e w' ⟨rfl, n, rfl⟩
                 obtain ⟨w2, hcl, o1, o2, hb⟩ := HC.out n
                 have O1 := Lib.hid o1
                 have O2 := Lib.hid o2
                 have HB := Lib.hid hb
                 have d0 : w2.cell? ⟨p, 0, none⟩ = some (.int .i64 A) := (hb.cell (b := p) HL.out (by simp; exact HG.out.symm)).trans c0
                 have d1 : w2.cell? ⟨p, 1, none⟩ = some (.slice (some ⟨g, off, none⟩) l.length cap) := (hb.cell (b := p) HL.out (by simp; exact HG.out.symm)).trans c1
                 have d2 : w2.frozen? ⟨p, 0, none⟩ = false := (hb.frozen (b := p) HL.out (by simp; exact HG.out.symm)).trans f0
                 have d3 : w2.frozen? ⟨p, 1, none⟩ = false := (hb.frozen (b := p) HL.out (by simp; exact HG.out.symm)).trans f1
                 clear o1 o2 hb)
    go_ret
    obtain ⟨c, hp⟩ := HP.out
    have hb := HB.out
    refine ⟨rfl, some ⟨g, off + k * 5, none⟩, ack_fin ((hb.block p HL.out (by simp; exact HG.out.symm)).trans hp) HG.out rfl O1.out HLD.out.symm HN.out, rfl, ?_⟩
    have hb0 : But [p, g] w w2 := ⟨hb.os, hb.tape, hb.output, hb.size, fun j hj hn => hb.block j hj (fun hm => hn (List.mem_cons_of_mem _ hm))⟩
    exact (hb0.set _ (.inl (List.mem_cons_self ..))).set _ (.inl (List.mem_cons_self ..))

/-- Ack, whatever comes -/
theorem ack_any (h : SAt w p A a l) (q : Int) : Calls Try.prog 14 #[.pointer (some ⟨p, 0, none⟩), .int .i64 q] w fun e w' => e = .returned (.bool (ackB A l q)) ∧
    ∃ a', SAt w' p (ackA A l q) a' (ackL A l q) ∧ blk p a' = blk p a ∧ But [p, blk p a] w w' := by
  by_cases hb : ackB A l q = true
  · obtain ⟨h1, h2⟩ := ackB_yes hb
    rw [hb, ackA, ackL, if_pos hb, if_pos hb]
    exact ack_ok h q h1 h2
  · have hb' : ackB A l q = false := by simpa using hb
    rw [hb', ackA, ackL, if_neg hb, if_neg hb]
    have no : (Calls Try.prog 14 #[.pointer (some ⟨p, 0, none⟩), .int .i64 q] w fun e w' => e = .returned (.bool false) ∧ ∃ n, w' = w.drewN n) := by
      rcases ackB_no hb' with h1 | h1
      · exact ack_low h q h1
      · by_cases h2 : q ≤ A
        · exact ack_low h q h2
        · exact ack_high h q (by omega) h1
    refine no.mono ?_
    rintro e w' ⟨rfl, n, rfl⟩
    exact ⟨rfl, a, h.drew n, rfl, (But.refl _ _).drewN n⟩
/-- Add, whatever comes -/
theorem add_any (h : SAt w p A a l) (x : It) (hl : l.length < 100000) : Calls Try.prog 12 #[.pointer (some ⟨p, 0, none⟩), itV x] w fun e w' => e = .returned (.tuple #[.int .i64 (addN A l), .int .i64 (addE A l)]) ∧
    ∃ a', SAt w' p A a' (addL A l x) ∧ Anew w a a' ∧ But [p, blk p a] w w' := by
  by_cases hx : last A l < 4611686018427387904
  · unfold addN addE addL
    rw [if_pos hx, if_pos hx, if_pos hx]
    exact add_ok h x hx hl
  · unfold addN addE addL
    rw [if_neg hx, if_neg hx, if_neg hx]
    refine (add_full h x hx).mono ?_
    rintro e w' ⟨rfl, hb⟩
    exact ⟨rfl, a, h.below hb (Nat.le_refl _), Anew.refl _ _, (But.of_below hb).mono (by simp)⟩
end
end Go.Proofs.Ytcnmkojlledipaa.Mr
