/-
  Decode answers the record that the bytes are, or the error, where they are none; nothing that was there changes. CONDITIONS: none (any row of bytes).
-/
import Derived.Test.YtpoolpckabpnfaaGreatCRecw
namespace Go.Proofs.YtpoolpckabpnfaaGreat.C
open Go.RowKit
set_option linter.unusedVariables false
set_option linter.unusedSimpArgs false
set_option maxRecDepth 20000

theorem catch_idle (p q : Addr) (w : World) :
    CallsD Tryz.prog 84 #[.pointer (some p), .pointer (some q)] .returning w fun e u' w' => e = .returned (.tuple #[]) ∧ u' = .returning ∧ w' = w := by
  refine callsD_of_wpS Tryz.func84 rfl fun c₀ cs hu => ?_
  apply wpS_seq
  apply wpS_region
  simp [wpOpsS, go_sem, recoverD, hu, Tryz.ntmps84, Exit.thenS]
  refine wpS_of_wp ?_
  show Code.wp Tryz.prog _ _ { tmps := #[.pointer (some p), .pointer (some q), .nilIface, .nilIface, undef, undef, undef, undef, undef], defers := [] } w
  go_wp2
  cases c₀
  simp_all [bodyPostS, results, Tryz.results84]

theorem fixed_world (w : World) (N : Nat) (k : Int) (aN : Option Addr) (nN cN : Nat) (aT : Option Addr) (nT cT : Nat) (e0 : Int) (h : Rec3 w N k aN nN cN aT nT cT) (he : w.cell? ⟨N + 1, 0, none⟩ = some (.int .i64 e0)) (hf : w.frozen? ⟨N + 1, 0, none⟩ = false) :
    let w' := ((((w.setCell ⟨N, 0, none⟩ (.int .i64 0)).setCell ⟨N, 1, none⟩ (.slice none 0 0)).setCell ⟨N, 2, none⟩ (.slice none 0 0)).setCell ⟨N + 1, 0, none⟩ (.int .i64 4)).drew
    Below N w w' ∧ Rec3 w' N 0 none 0 0 none 0 0 ∧ w'.cell? ⟨N + 1, 0, none⟩ = some (.int .i64 4) := by
  obtain ⟨c1, c2, c3, c4, c5, c6⟩ := h
  refine ⟨((((Below.refl N w).setCell (p := ⟨N, 0, none⟩) (Nat.le_refl _) _).setCell (p := ⟨N, 1, none⟩) (Nat.le_refl _) _).setCell (p := ⟨N, 2, none⟩) (Nat.le_refl _) _).setCell (p := ⟨N + 1, 0, none⟩) (by simp) _ |>.drew, ⟨?_, ?_, ?_, ?_, ?_, ?_⟩, ?_⟩
  all_goals go_simp

theorem catch_wrong (N : Nat) (k : Int) (aN : Option Addr) (nN cN : Nat) (aT : Option Addr) (nT cT : Nat) (e0 : Int) (older : List PanicEntry) (w : World) (h : Rec3 w N k aN nN cN aT nT cT) (he : w.cell? ⟨N + 1, 0, none⟩ = some (.int .i64 e0)) (hf : w.frozen? ⟨N + 1, 0, none⟩ = false) :
    CallsD Tryz.prog 84 #[.pointer (some ⟨N, 0, none⟩), .pointer (some ⟨N + 1, 0, none⟩)] (.panicking ({ v := wrongs, recovered := false } :: older)) w fun e u' w' =>
      e = .returned (.tuple #[]) ∧ u' = .panicking ({ v := wrongs, recovered := true } :: older) ∧ Below N w w' ∧ Rec3 w' N 0 none 0 0 none 0 0 ∧ w'.cell? ⟨N + 1, 0, none⟩ = some (.int .i64 4) := by
  obtain ⟨c1, c2, c3, c4, c5, c6⟩ := h
  refine callsD_of_wpS Tryz.func84 rfl fun c₀ cs hu => ?_
  apply wpS_seq
  apply wpS_region
  simp [wpOpsS, go_sem, recoverD, hu, Tryz.ntmps84, Exit.thenS]
  refine wpS_of_wp ?_
  show Code.wp Tryz.prog _ _ { tmps := #[.pointer (some ⟨N, 0, none⟩), .pointer (some ⟨N + 1, 0, none⟩), wrongs, wrongs, undef, undef, undef, undef, undef], defers := [] } w
  unfold wrongs
  have hta : ∀ w : World, (Instr.typeAssert (.iface 145 (.int .i64 4)) 20 145 false).run Tryz.prog w = .ok (.int .i64 4) w := fun _ => by kernel_rfl
  go_wp2
  go_region
  obtain ⟨f1, f2, f3⟩ := fixed_world w N k aN nN cN aT nT cT e0 ⟨c1, c2, c3, c4, c5, c6⟩ he hf
  exact ⟨rfl, _, rfl, .tuple #[], by simp [results, Tryz.results84], rfl, rfl, f1, f2, f3⟩

theorem mov_rec3 {w w' : World} {T R N : Nat} {k : Int} {aN : Option Addr} {nN cN : Nat} {aT : Option Addr} {nT cT : Nat} (h : Rec3 w T k aN nN cN aT nT cT) (hb : Mov R N w w') (hT : T < N) (hR : T ≠ R) : Rec3 w' T k aN nN cN aT nT cT := by
  obtain ⟨h1, h2, h3, h4, h5, h6⟩ := h
  have e := hb.block T hT hR
  have ec : ∀ o, w'.cell? ⟨T, o, none⟩ = w.cell? ⟨T, o, none⟩ := fun o => World.cell?_of_block e
  have ef : ∀ o, w'.frozen? ⟨T, o, none⟩ = w.frozen? ⟨T, o, none⟩ := fun o => World.frozen?_of_block e
  exact ⟨by rw [ec]; exact h1, by rw [ec]; exact h2, by rw [ec]; exact h3, by rw [ef]; exact h4, by rw [ef]; exact h5, by rw [ef]; exact h6⟩

/-- the world in which the reader begins -/
def opened (w : World) (a : Option Addr) (n cap : Nat) : World :=
  ((w.alloc (.cells #[.int .i64 0, .slice none 0 0, .slice none 0 0] 80)).alloc (.cells #[.int .i64 0] 29)).alloc (.cells #[.slice a n cap] 148)

theorem opened_below (w : World) (a : Option Addr) (n cap : Nat) : Below w.heap.size w (opened w a n cap) :=
  (((Below.refl _ w).alloc (Nat.le_refl _) _).alloc (by simp) _).alloc (by simp; omega) _

theorem opened_at {w : World} {a : Option Addr} {n cap : Nat} {l : List UInt8} (h : Row w a n cap (u8s l)) : At (opened w a n cap) (w.heap.size + 2) l := by
  refine ⟨a, n, cap, ?_, ?_, row_below h (opened_below w a n cap) (Nat.le_refl _), ?_⟩
  · unfold opened; go_simp
  · unfold opened; go_simp
  · rcases h.2.2.2 with h' | ⟨b, off, ha, hlt, _⟩
    · exact .inl (List.map_eq_nil_iff.1 h')
    · refine .inr fun x hx => ?_
      rw [ha] at hx
      injection hx with hx
      subst hx
      simp only
      omega

theorem opened_res (w : World) (a : Option Addr) (n cap : Nat) : Rec3 (opened w a n cap) w.heap.size 0 none 0 0 none 0 0 := by
  unfold opened
  refine ⟨?_, ?_, ?_, ?_, ?_, ?_⟩ <;> go_simp

theorem opened_err (w : World) (a : Option Addr) (n cap : Nat) : (opened w a n cap).cell? ⟨w.heap.size + 1, 0, none⟩ = some (.int .i64 0) ∧ (opened w a n cap).frozen? ⟨w.heap.size + 1, 0, none⟩ = false := by
  unfold opened
  constructor <;> go_simp

theorem opened_size (w : World) (a : Option Addr) (n cap : Nat) : (opened w a n cap).heap.size = w.heap.size + 3 := by
  unfold opened
  simp

/-- a record, as its three values -/
def RecIs (w : World) (N : Nat) (r : M.Rc) (v : Value) : Prop :=
  ∃ (a : Option Addr) (n cap : Nat) (aT : Option Addr) (nT cT : Nat), v = .agg #[.int .i64 r.kind, .slice a n cap, .slice aT nT cT] ∧ Own 2 w N a n cap (i64s r.nums) ∧ Own 9 w N aT nT cT (strs r.texts)

def zeroRec : Value := .agg #[.int .i64 0, .slice none 0 0, .slice none 0 0]

def DPost (w : World) (l : List UInt8) (e : Ending) (w' : World) : Prop :=
  Below w.heap.size w w' ∧ ((∃ r v, M.dec l = some r ∧ RecIs w' w.heap.size r v ∧ e = .returned (.tuple #[v, .int .i64 0])) ∨ (M.dec l = none ∧ e = .returned (.tuple #[zeroRec, .int .i64 4])))

theorem moved_below {R B N : Nat} {w w' : World} (h : Mov R B w w') (hR : N ≤ R ∧ N ≤ B) : Below N w w' :=
  ⟨h.os, h.tape, h.output, h.size, fun k hk => h.block k (by omega) (by omega)⟩

theorem final_world (w1 : World) (N : Nat) (kd : Int) (b : Option Addr) (nn nc : Nat) (bT : Option Addr) (nT cT : Nat) (g1 : w1.cell? ⟨N, 0, none⟩ = some (.int .i64 0)) (g2 : w1.cell? ⟨N, 1, none⟩ = some (.slice none 0 0)) (g3 : w1.cell? ⟨N, 2, none⟩ = some (.slice none 0 0))
    (he : w1.cell? ⟨N + 1, 0, none⟩ = some (.int .i64 0)) :
    let w2 := ((((((w1.setCell ⟨N, 0, none⟩ (.int .i64 kd)).setCell ⟨N, 1, none⟩ (.slice b nn nc)).setCell ⟨N, 2, none⟩ (.slice bT nT cT)).setCell ⟨N, 0, none⟩ (.int .i64 kd)).setCell ⟨N, 1, none⟩ (.slice b nn nc)).setCell ⟨N, 2, none⟩ (.slice bT nT cT)).setCell ⟨N + 1, 0, none⟩ (.int .i64 0)
    Below N w1 w2 ∧ w2.cell? ⟨N, 0, none⟩ = some (.int .i64 kd) ∧ w2.cell? ⟨N, 1, none⟩ = some (.slice b nn nc) ∧ w2.cell? ⟨N, 2, none⟩ = some (.slice bT nT cT) ∧ w2.cell? ⟨N + 1, 0, none⟩ = some (.int .i64 0) ∧
      (∀ (e : TypeId) (B : Nat) (a : Option Addr) (n cap : Nat) (vs : List Value), Own e w1 B a n cap vs → N + 2 ≤ B → Own e w2 B a n cap vs) ∧ True := by
  refine ⟨?_, ?_, ?_, ?_, ?_, ?_, trivial⟩
  · exact (((((((Below.refl N w1).setCell (p := ⟨N, 0, none⟩) (Nat.le_refl _) _).setCell (p := ⟨N, 1, none⟩) (Nat.le_refl _) _).setCell (p := ⟨N, 2, none⟩) (Nat.le_refl _) _).setCell (p := ⟨N, 0, none⟩) (Nat.le_refl _) _).setCell (p := ⟨N, 1, none⟩) (Nat.le_refl _) _).setCell (p := ⟨N, 2, none⟩) (Nat.le_refl _) _).setCell (p := ⟨N + 1, 0, none⟩) (by simp) _
  · go_simp
  · have x0 : (w1.setCell ⟨N, 0, none⟩ (.int .i64 kd)).cell? ⟨N, 1, none⟩ = some (.slice none 0 0) := by
      rw [World.cell?_setCell_other _ _ _ _ (by simp)]; exact g2
    have x1 : ((w1.setCell ⟨N, 0, none⟩ (.int .i64 kd)).setCell ⟨N, 1, none⟩ (.slice b nn nc)).cell? ⟨N, 1, none⟩ = some (.slice b nn nc) := World.cell?_setCell_same _ _ _ x0
    have x2 : ((((w1.setCell ⟨N, 0, none⟩ (.int .i64 kd)).setCell ⟨N, 1, none⟩ (.slice b nn nc)).setCell ⟨N, 2, none⟩ (.slice bT nT cT)).setCell ⟨N, 0, none⟩ (.int .i64 kd)).cell? ⟨N, 1, none⟩ = some (.slice b nn nc) := by
      rw [World.cell?_setCell_other _ _ _ _ (by simp), World.cell?_setCell_other _ _ _ _ (by simp)]; exact x1
    rw [World.cell?_setCell_other _ _ _ _ (by simp), World.cell?_setCell_other _ _ _ _ (by simp)]
    exact World.cell?_setCell_same _ _ _ x2
  · have x0 : ((w1.setCell ⟨N, 0, none⟩ (.int .i64 kd)).setCell ⟨N, 1, none⟩ (.slice b nn nc)).cell? ⟨N, 2, none⟩ = some (.slice none 0 0) := by
      rw [World.cell?_setCell_other _ _ _ _ (by simp), World.cell?_setCell_other _ _ _ _ (by simp)]; exact g3
    have x1 : (((w1.setCell ⟨N, 0, none⟩ (.int .i64 kd)).setCell ⟨N, 1, none⟩ (.slice b nn nc)).setCell ⟨N, 2, none⟩ (.slice bT nT cT)).cell? ⟨N, 2, none⟩ = some (.slice bT nT cT) := World.cell?_setCell_same _ _ _ x0
    have x2 : (((((w1.setCell ⟨N, 0, none⟩ (.int .i64 kd)).setCell ⟨N, 1, none⟩ (.slice b nn nc)).setCell ⟨N, 2, none⟩ (.slice bT nT cT)).setCell ⟨N, 0, none⟩ (.int .i64 kd)).setCell ⟨N, 1, none⟩ (.slice b nn nc)).cell? ⟨N, 2, none⟩ = some (.slice bT nT cT) := by
      rw [World.cell?_setCell_other _ _ _ _ (by simp), World.cell?_setCell_other _ _ _ _ (by simp)]; exact x1
    rw [World.cell?_setCell_other _ _ _ _ (by simp)]
    exact World.cell?_setCell_same _ _ _ x2
  · go_simp
  · intro e B a n cap vs h hB
    exact own_set (own_set (own_set (own_set (own_set (own_set (own_set h _ (by simp only; omega)) _ (by simp only; omega)) _ (by simp only; omega)) _ (by simp only; omega)) _ (by simp only; omega)) _ (by simp only; omega)) _ (by simp only; omega)

theorem half_world (w1 : World) (N : Nat) (kd : Int) (b : Option Addr) (nn nc : Nat) (bT : Option Addr) (nT cT : Nat) (h : Rec3 w1 N 0 none 0 0 none 0 0)
    (he : w1.cell? ⟨N + 1, 0, none⟩ = some (.int .i64 0)) (hf : w1.frozen? ⟨N + 1, 0, none⟩ = false) :
    let w2 := ((w1.setCell ⟨N, 0, none⟩ (.int .i64 kd)).setCell ⟨N, 1, none⟩ (.slice b nn nc)).setCell ⟨N, 2, none⟩ (.slice bT nT cT)
    Below N w1 w2 ∧ Rec3 w2 N kd b nn nc bT nT cT ∧ w2.cell? ⟨N + 1, 0, none⟩ = some (.int .i64 0) ∧ w2.frozen? ⟨N + 1, 0, none⟩ = false := by
  obtain ⟨g1, g2, g3, g4, g5, g6⟩ := h
  refine ⟨(((Below.refl N w1).setCell (p := ⟨N, 0, none⟩) (Nat.le_refl _) _).setCell (p := ⟨N, 1, none⟩) (Nat.le_refl _) _).setCell (p := ⟨N, 2, none⟩) (Nat.le_refl _) _, ⟨?_, ?_, ?_, ?_, ?_, ?_⟩, ?_, ?_⟩
  all_goals go_simp

theorem dec_nil {l : List UInt8} {r : M.Rc} (h : M.rdR l = some (r, [])) : M.dec l = some r := by unfold M.dec; rw [h]
theorem dec_cons {l : List UInt8} {r : M.Rc} {z : UInt8} {zs : List UInt8} (h : M.rdR l = some (r, z :: zs)) : M.dec l = none := by unfold M.dec; rw [h]

set_option maxHeartbeats 1000000 in
theorem decode_any (w : World) (a : Option Addr) (n cap : Nat) (l : List UInt8) (h : Row w a n cap (u8s l)) :
    Calls Tryz.prog 65 #[.slice a n cap] w (DPost w l) := by
  have hmf : ∀ (fn : Fn) (first cap : Array Value) (w : World), (Instr.makeFunc fn first cap).run Tryz.prog w = .ok (.func fn first cap) w := fun _ _ _ _ => rfl
  have HR := Lib.hid (record_any (opened w a n cap) (w.heap.size + 2) l (opened_at h) (by rw [opened_size]; omega))
  clear h
  go_enter_defers Tryz.func65, Tryz.ntmps65
  go_wp2_with fail
  change Calls Tryz.prog 85 _ (opened w a n cap) _
  refine HR.out.mono ?_
  rintro e w1 (⟨r, x, b, nn, nc, bT, nT, cT, h1, rfl, hn, ht, hat, hmov⟩ | ⟨h1, rfl, hb⟩)
  · obtain ⟨g1, g2, g3, g4, g5, g6⟩ := mov_rec3 (opened_res w a n cap) hmov (by rw [opened_size]; omega) (by omega)
    have hfe := hmov.block (w.heap.size + 1) (by rw [opened_size]; omega) (by omega)
    have he := (World.cell?_of_block (a := ⟨w.heap.size + 1, 0, none⟩) hfe).trans (opened_err w a n cap).1
    have hf := (World.frozen?_of_block (a := ⟨w.heap.size + 1, 0, none⟩) hfe).trans (opened_err w a n cap).2
    obtain ⟨xa, xn, xc, hx1, hx2, hx3, hx4⟩ := hat
    have Hn := Lib.hid hn
    have Ht := Lib.hid ht
    have Hm := Lib.hid hmov
    have Hd := Lib.hid h1
    clear hn ht hmov h1 hfe hx4
    cases x with
    | nil =>
      have hxn : xn = 0 := by have := hx3.1; simpa [u8s] using this.symm
      subst hxn
      clear hx3
      go_wp2_with (go_at_call 86; refine (need_ok _).mono ?_; rintro e w' ⟨rfl, rfl⟩)
      obtain ⟨k1, k2, k3, k4, k5, k6, k7⟩ := final_world w1 w.heap.size r.kind b nn nc bT nT cT g1 g2 g3 he
      generalize (((((((w1.setCell ⟨w.heap.size, 0, none⟩ (.int .i64 r.kind)).setCell ⟨w.heap.size, 1, none⟩ (.slice b nn nc)).setCell ⟨w.heap.size, 2, none⟩ (.slice bT nT cT)).setCell ⟨w.heap.size, 0, none⟩ (.int .i64 r.kind)).setCell ⟨w.heap.size, 1, none⟩ (.slice b nn nc)).setCell ⟨w.heap.size, 2, none⟩ (.slice bT nT cT)).setCell ⟨w.heap.size + 1, 0, none⟩ (.int .i64 0)) = w2 at *
      refine leaves_cons (f := 84) (args := #[.pointer (some ⟨w.heap.size, 0, none⟩), .pointer (some ⟨w.heap.size + 1, 0, none⟩)]) (by simp) (by simp [go_sem]) ?_
      refine (catch_idle ⟨w.heap.size, 0, none⟩ ⟨w.heap.size + 1, 0, none⟩ _).mono ?_
      rintro e u' w'' ⟨rfl, rfl, rfl⟩
      have Hp : Hid (DPost w l (.returned (.tuple #[.agg #[.int .i64 r.kind, .slice b nn nc, .slice bT nT cT], .int .i64 0])) _) :=
        ⟨((opened_below w a n cap).trans (moved_below Hm.out ⟨by omega, by rw [opened_size]; omega⟩)).trans k1, .inl ⟨r, _, dec_nil Hd.out, ⟨b, nn, nc, bT, nT, cT, rfl, own_mono (k6 _ _ _ _ _ _ Hn.out (by rw [opened_size]; omega)) (by rw [opened_size]; omega), own_mono (k6 _ _ _ _ _ _ Ht.out (by rw [opened_size]; omega)) (by rw [opened_size]; omega)⟩, rfl⟩⟩
      simp only [Leaves, settle]
      refine ⟨_, ?_, Hp.out⟩
      simp [results, Tryz.results65, go_sem, k2, k3, k4, k5]
    | cons z zs =>
      have hxn : ¬ xn = 0 := by have := hx3.1; simp [u8s] at this; omega
      have hxlim := hx3.2
      have hxn2 : ((xn : Int) == 0) = false := by rw [beq_eq_false_iff_ne]; omega
      clear hx3 hxlim
      go_wp2_with (go_at_call 86; refine (need_no _).mono ?_; rintro e w' ⟨rfl, rfl⟩)
      obtain ⟨k1, k2, k3, k4⟩ := half_world w1 w.heap.size r.kind b nn nc bT nT cT ⟨g1, g2, g3, g4, g5, g6⟩ he hf
      generalize (((w1.setCell ⟨w.heap.size, 0, none⟩ (.int .i64 r.kind)).setCell ⟨w.heap.size, 1, none⟩ (.slice b nn nc)).setCell ⟨w.heap.size, 2, none⟩ (.slice bT nT cT)) = w2 at *
      refine leaves_cons (f := 84) (args := #[.pointer (some ⟨w.heap.size, 0, none⟩), .pointer (some ⟨w.heap.size + 1, 0, none⟩)]) (by simp) (by simp [go_sem]) ?_
      refine (catch_wrong w.heap.size r.kind b nn nc bT nT cT 0 [] w2 k2 k3 k4).mono ?_
      rintro e u' w3 ⟨rfl, rfl, hb2, ⟨g1, g2, g3, g4, g5, g6⟩, hw⟩
      have Hp : Hid (DPost w l (.returned (.tuple #[zeroRec, .int .i64 4])) w3) := ⟨(((opened_below w a n cap).trans (moved_below Hm.out ⟨by omega, by rw [opened_size]; omega⟩)).trans k1).trans hb2, .inr ⟨dec_cons Hd.out, rfl⟩⟩
      simp only [Leaves, settle]
      refine ⟨_, ?_, Hp.out⟩
      simp [results, Tryz.results65, go_sem, g1, g2, g3, hw]
      rfl
  · obtain ⟨he, hf⟩ := opened_err w a n cap
    have hres := rec3_below (opened_res w a n cap) hb (by omega)
    have he2 : w1.cell? ⟨w.heap.size + 1, 0, none⟩ = some (.int .i64 0) := by rw [hb.cell (p := ⟨w.heap.size + 1, 0, none⟩) (by simp)]; exact he
    have hf2 : w1.frozen? ⟨w.heap.size + 1, 0, none⟩ = false := by rw [hb.frozen (p := ⟨w.heap.size + 1, 0, none⟩) (by simp)]; exact hf
    refine leaves_cons (f := 84) (args := #[.pointer (some ⟨w.heap.size, 0, none⟩), .pointer (some ⟨w.heap.size + 1, 0, none⟩)]) (by simp) (by simp [go_sem]) ?_
    refine (catch_wrong w.heap.size 0 none 0 0 none 0 0 0 [] w1 hres he2 hf2).mono ?_
    rintro e u' w2 ⟨rfl, rfl, hb2, ⟨g1, g2, g3, g4, g5, g6⟩, hw⟩
    have Hp : Hid (DPost w l (.returned (.tuple #[zeroRec, .int .i64 4])) w2) := ⟨((opened_below w a n cap).trans (hb.mono (by omega))).trans hb2, .inr ⟨by unfold M.dec; rw [h1], rfl⟩⟩
    simp [Leaves, settle, results, Tryz.results65, go_sem, g1, g2, g3, hw]
    exact Hp.out
end Go.Proofs.YtpoolpckabpnfaaGreat.C
