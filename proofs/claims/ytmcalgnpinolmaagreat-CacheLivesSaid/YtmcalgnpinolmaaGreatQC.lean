/-
  A cache on a device without a fuse, with all that holds; a record comes.
  Room is made.
  Records are brought.
  The cache's methods that ask for little: what is told, what is refused, what becomes of what is seen.
  Drop, Clean, Reset: what they tell, and what becomes of what is seen.
-/
import Derived.Test.YtmcalgnpinolmaaGreatQA
import Derived.Test.YtmcalgnpinolmaaGreatLog12
namespace Go.Proofs.YtmcalgnpinolmaaGreat
open Go.RowKit Go.Maps
set_option linter.unusedVariables false
set_option linter.unusedSimpArgs false
set_option maxRecDepth 20000
namespace Q

theorem do_any {qB lB N nb mE : Nat} {k : Kp} {E : Mp} (w : World) (g : CacheC w qB lB N nb mE k) (hm : MapQ w mE E) (hne : qB ≠ mE) (hE : ∀ k s, E k = some s → 0 ≤ k ∧ k < (nb : Int)) (hnb : nb ≤ 32) (d : Deed) (hd : MayD nb d) (k' : Kp) (at' : Int) :
    Calls Tryz.prog 44 #[.pointer (some ⟨qB, 0, none⟩), recV d k', .int .i64 at'] w fun e w' => e = .returned (.tuple #[]) ∧ CacheC w' qB lB N nb mE k' ∧ MapQ w' mE (step E d at') ∧ But [qB, mE] w w' := by
  cases d with
  | lay x => exact do_lay w g hm hne hE hnb x ⟨MayE.b0 hd, MayE.b1 hd⟩ k' at'
  | clean b ep sq => exact do_clean w g hm hne hE hnb b ep sq (by have := hd.1.1; omega) (by have := hd.1.2; omega) k' at'
  | drop b => exact do_drop w g hm hne b (by have : 0 ≤ b ∧ b < (nb : Int) := hd; omega) (by have : 0 ≤ b ∧ b < (nb : Int) := hd; omega) k' at'
  | note => exact do_note w g hm hne k' at'

/-- where all lies -/
structure Bk where
  dB : Nat
  sB : Nat
  mB : Nat
  lB : Nat
  rb : Nat
  cB : Nat
  qB : Nat
  mE : Nat
/-- how many sectors, where the ring and the cell lie, how many blocks -/
structure Gm where
  n : Nat
  first : Nat
  N : Nat
  a : Nat
  b : Nat
  nb : Nat
/-- how it stands -/
structure St where
  d : M.Dv
  c : M.Cl
  L : M.Lg
  E : Mp
  k : Kp
  K : Int

def Bk.l (B : Bk) : List Nat := [B.dB, B.sB, B.mB, B.lB, B.rb, B.cB, B.qB, B.mE]

/-- the blocks of the cache itself are none of the others -/
structure Sep (B : Bk) : Prop where
  q : B.qB ≠ B.dB ∧ B.qB ≠ B.sB ∧ B.qB ≠ B.mB ∧ B.qB ≠ B.lB ∧ B.qB ≠ B.rb ∧ B.qB ≠ B.cB ∧ B.qB ≠ B.mE
  m : B.mE ≠ B.dB ∧ B.mE ≠ B.sB ∧ B.mE ≠ B.mB ∧ B.mE ≠ B.lB ∧ B.mE ≠ B.rb ∧ B.mE ≠ B.cB

structure CG (w : World) (B : Bk) (G : Gm) (s : St) : Prop where
  dv : DevAt w B.dB B.sB B.mB G.n s.d
  fr : Free s.d
  lg : LG w B.dB B.sB B.mB G.n s.d B.lB B.rb B.cB G.first G.N G.a G.b s.c s.L s.K
  qc : CacheC w B.qB B.lB G.N G.nb B.mE s.k
  mp : MapQ w B.mE s.E
  sp : Sep B
  hd : Hold G.nb G.N s.L s.E s.k

variable {B : Bk} {G : Gm} {s : St}

/-- the row of the log may be a new one -/
def Bk.row (B : Bk) (r : Nat) : Bk := { B with rb := r }
def Moved (w : World) (B B' : Bk) : Prop := ∃ r, B' = B.row r ∧ (r = B.rb ∨ w.heap.size ≤ r)

theorem CG.lt {w : World} (h : CG w B G s) : ∀ x ∈ B.l, x < w.heap.size := by
  have h1 := h.dv.ltD
  have h2 := h.dv.lt
  have h3 := h.dv.pend.lt
  have h4 := h.lg.la.lt
  have h5 := h.lg.ca.lt
  have h6 := h.qc.lt
  have h7 := h.mp.lt
  intro x hx
  simp only [Bk.l, List.mem_cons, List.not_mem_nil, or_false] at hx
  rcases hx with rfl | rfl | rfl | rfl | rfl | rfl | rfl | rfl <;> omega

theorem CG.but {w w' : World} (h : CG w B G s) {q : List Nat} (hb : But q w w') (hq : ∀ x ∈ B.l, x ∉ q) : CG w' B G s := by
  have m : ∀ {x}, x ∈ B.l → x ∉ q := fun {x} hx => hq x hx
  exact ⟨h.dv.but hb (m (by simp [Bk.l])) (m (by simp [Bk.l])) (m (by simp [Bk.l])), h.fr, h.lg.but hb (m (by simp [Bk.l])) (m (by simp [Bk.l])) (m (by simp [Bk.l])), h.qc.but hb (m (by simp [Bk.l])), h.mp.but hb (m (by simp [Bk.l])), h.sp, h.hd⟩
theorem CG.below {w w' : World} (h : CG w B G s) (hb : Below w.heap.size w w') : CG w' B G s := h.but (But.of_below hb) (by simp)
theorem CG.drew {w : World} (h : CG w B G s) : CG w.drew B G s := h.below ((Below.refl _ _).drew)

theorem Hold.keys {nb N : Nat} {L : M.Lg} {E : Mp} {k : Kp} (h : Hold nb N L E k) : ∀ b x, E b = some x → 0 ≤ b ∧ b < (nb : Int) := fun b x hx => h.ok.range hx

theorem Deed.val_iface (d : Deed) : ∃ t v, d.val = .iface t v := by
  cases d with
  | lay x => exact ⟨_, _, rfl⟩
  | clean b ep sq => exact ⟨_, _, rfl⟩
  | drop b => exact ⟨_, _, rfl⟩
  | note => exact ⟨_, _, rfl⟩

set_option maxHeartbeats 2000000 in
theorem come_cg (w : World) (h : CG w B G s) (hK : s.K ≤ 1000000000) (hroom : s.L.rs.length < G.N) (d : Deed) (hd : MayD G.nb d) (k' : Kp) (hk : MayK k') (hcn : num G.nb (vis (step s.E d s.L.tail)) ≤ G.N - 6) :
    Calls Tryz.prog 78 #[.pointer (some ⟨B.qB, 0, none⟩), recV d k'] w fun e w' => e = .returned (.int .i64 0) ∧ ∃ r d', CG w' (B.row r) G ⟨d', s.c, s.L.add (txQ d k'), step s.E d s.L.tail, k', s.K + 1⟩ ∧ (r = B.rb ∨ w.heap.size ≤ r) ∧ But B.l w w' := by
  obtain ⟨td, vd, hv⟩ := d.val_iface
  have HT : Hid (∀ w', Calls Tryz.prog 102 #[.agg #[.iface td vd, .int .i64 k'.ep, .int .i64 k'.sq, .int .i64 k'.t0, .int .i64 k'.t1, .int .i64 k'.t2, .int .i64 k'.t3]] w' fun e w'' => e = .returned (.string (txQ d k')) ∧ Below w'.heap.size w' w'') := Lib.hid (fun w' => by rw [← hv]; exact text_q w' d k' G.nb h.hd.nb hd hk)
  have HD : Hid (∀ w' (g : CacheC w' B.qB B.lB G.N G.nb B.mE s.k) (hm : MapQ w' B.mE s.E), Calls Tryz.prog 44 #[.pointer (some ⟨B.qB, 0, none⟩), .agg #[.iface td vd, .int .i64 k'.ep, .int .i64 k'.sq, .int .i64 k'.t0, .int .i64 k'.t1, .int .i64 k'.t2, .int .i64 k'.t3], .int .i64 s.L.tail] w' fun e w'' => e = .returned (.tuple #[]) ∧ CacheC w'' B.qB B.lB G.N G.nb B.mE k' ∧ MapQ w'' B.mE (step s.E d s.L.tail) ∧ But [B.qB, B.mE] w' w'') := Lib.hid (fun w' g hm => by rw [← hv]; exact do_any w' g hm h.sp.q.2.2.2.2.2.2 h.hd.keys h.hd.nb d hd k' s.L.tail)
  have HW : Hid (∀ w', Below w.heap.size w w' → CG w' B G s) := Lib.hid (fun w' hb => h.below hb)
  have Hlt := Lib.hid h.lt
  have Hsp := Lib.hid h.sp
  have Hhd := Lib.hid h.hd
  have hsz := txQ_size (k := k') hd h.hd.nb
  have HR : Hid (M.appR G.N s.L (txQ d k') = 0) := Lib.hid (by unfold M.appR; rw [if_neg (by omega), if_neg (by omega)])
  have HSy : Hid (Says G.nb (s.L.add (txQ d k')) (step s.E d s.L.tail) k') := Lib.hid (h.hd.says.come hd hk)
  have HK := Lib.hid hK
  have Hk := Lib.hid hk
  have Hcn := Lib.hid hcn
  have p0 := (h.qc.of_block (w' := w.alloc (.cells #[.iface td vd, .int .i64 k'.ep, .int .i64 k'.sq, .int .i64 k'.t0, .int .i64 k'.t1, .int .i64 k'.t2, .int .i64 k'.t3] 98)) (Below.heap_alloc _ _ _ h.qc.lt)).p0
  have HB0 : Hid (Below w.heap.size w (w.alloc (.cells #[.iface td vd, .int .i64 k'.ep, .int .i64 k'.sq, .int .i64 k'.t0, .int .i64 k'.t1, .int .i64 k'.t2, .int .i64 k'.t3] 98))) := Lib.hid ((Below.refl _ _).alloc (Nat.le_refl _) _)
  have HX : Hid (∀ w', (∃ q, But q (w.alloc (.cells #[.iface td vd, .int .i64 k'.ep, .int .i64 k'.sq, .int .i64 k'.t0, .int .i64 k'.t1, .int .i64 k'.t2, .int .i64 k'.t3] 98)) w' ∧ w.heap.size ∉ q ∧ B.qB ∉ q) → w'.cell? ⟨B.qB, 0, none⟩ = some (.pointer (some ⟨B.lB, 0, none⟩)) ∧ w'.cell? ⟨w.heap.size, 0, none⟩ = some (.iface td vd) ∧ w'.cell? ⟨w.heap.size, 1, none⟩ = some (.int .i64 k'.ep) ∧ w'.cell? ⟨w.heap.size, 2, none⟩ = some (.int .i64 k'.sq) ∧ w'.cell? ⟨w.heap.size, 3, none⟩ = some (.int .i64 k'.t0) ∧ w'.cell? ⟨w.heap.size, 4, none⟩ = some (.int .i64 k'.t1) ∧ w'.cell? ⟨w.heap.size, 5, none⟩ = some (.int .i64 k'.t2) ∧ w'.cell? ⟨w.heap.size, 6, none⟩ = some (.int .i64 k'.t3)) := Lib.hid (fun w' hq => by
    obtain ⟨q, hb, hn, hq⟩ := hq
    have hl := h.qc.lt
    refine ⟨?_, ?_, ?_, ?_, ?_, ?_, ?_, ?_⟩
    · rw [hb.cell (by simp; omega) hq]; exact p0
    all_goals (rw [hb.cell (by simp) hn, World.cell?_alloc_mark]; rfl)
  )
  unfold recV
  rw [hv]
  clear h hK hroom hd hk hcn hv hsz
  go_enter Tryz.func78, Tryz.ntmps78
  go_wp2_with (go_at_call 86; refine (tail_lg _ (HW.out _ HB0.out).lg HK.out).mono ?_; rintro e w1 ⟨rfl, j1, hj1⟩
               have HJ1 := Lib.hid hj1
               clear hj1)
  have HQ1 : Hid (But [] (w.alloc (.cells #[.iface td vd, .int .i64 k'.ep, .int .i64 k'.sq, .int .i64 k'.t0, .int .i64 k'.t1, .int .i64 k'.t2, .int .i64 k'.t3] 98)) w1.drew) := Lib.hid (by rw [HJ1.out]; exact (But.of_below (below_drewN _ _ _)).drew)
  have HB1 : Hid (Below w.heap.size w w1.drew) := Lib.hid (HB0.out.trans (HQ1.out.to_below (by simp) HB0.out.size))
  have HX1 := Lib.hid (HX.out _ ⟨[], HQ1.out, by simp, by simp⟩)
  go_region_held3 (fun w' => w'.cell? ⟨B.qB, 0, none⟩ = some (.pointer (some ⟨B.lB, 0, none⟩)) ∧ w'.cell? ⟨w.heap.size, 0, none⟩ = some (.iface td vd) ∧ w'.cell? ⟨w.heap.size, 1, none⟩ = some (.int .i64 k'.ep) ∧ w'.cell? ⟨w.heap.size, 2, none⟩ = some (.int .i64 k'.sq) ∧ w'.cell? ⟨w.heap.size, 3, none⟩ = some (.int .i64 k'.t0) ∧ w'.cell? ⟨w.heap.size, 4, none⟩ = some (.int .i64 k'.t1) ∧ w'.cell? ⟨w.heap.size, 5, none⟩ = some (.int .i64 k'.t2) ∧ w'.cell? ⟨w.heap.size, 6, none⟩ = some (.int .i64 k'.t3))
    (first
      | exact HX1.out
      | exact HX2.out
      | exact HX3.out)
    (first
      | (go_at_call 102; with_reducible refine (HT.out _).mono ?_; rintro e w2 ⟨rfl, hb2⟩
         have HB2 : Hid (Below w.heap.size w w2) := Lib.hid (HB1.out.trans (hb2.mono HB1.out.size))
         have HQ2 : Hid (But [] (w.alloc (.cells #[.iface td vd, .int .i64 k'.ep, .int .i64 k'.sq, .int .i64 k'.t0, .int .i64 k'.t1, .int .i64 k'.t2, .int .i64 k'.t3] 98)) w2) := Lib.hid (HQ1.out.trans (But.of_below hb2))
         have HX2 := Lib.hid (HX.out _ ⟨[], HQ2.out, by simp, by simp⟩)
         clear hb2)
      | (go_at_call 101; refine (append_lg w2 (HW.out _ HB2.out).dv (HW.out _ HB2.out).fr (HW.out _ HB2.out).lg HK.out (txQ d k')).mono ?_
         rw [HR.out, M.appL_ok]
         rintro e w3 ⟨rfl, d3, r3, hd3, hf3, hl3, hr3, hb3, _⟩
         have HX3 := Lib.hid (HX.out w3 ⟨[B.dB, B.mB, B.lB, B.rb], (HQ2.out.mono (by simp)).trans hb3, by have := Hlt.out; simp [Bk.l] at this; simp; omega, by have := Hsp.out.q; simp; omega⟩)
         have HG3 := Lib.hid (And.intro hd3 (And.intro hf3 (And.intro hl3 (And.intro hr3 hb3))))
         clear hd3 hf3 hl3 hr3 hb3))
  obtain ⟨x0, x1, x2, x3, x4, x5, x6, x7⟩ := HX3.out
  have HG2 := Lib.hid (HW.out _ HB2.out)
  have hne := Hsp.out
  have HC3 := Lib.hid (HG2.out.qc.but HG3.out.2.2.2.2 (by have := Hsp.out.q; simp; omega))
  have HM3 := Lib.hid (HG2.out.mp.but HG3.out.2.2.2.2 (by have := Hsp.out.m; simp; omega))
  clear HX1 HX2 HX3 HX HQ1 HQ2 hne
  go_wp2_with (go_at_call 44; with_reducible refine (HD.out _ HC3.out HM3.out).mono ?_; rintro e w4 ⟨rfl, hq4, hm4, hb4⟩
               have H4 := Lib.hid (And.intro hq4 (And.intro hm4 hb4))
               clear hq4 hm4 hb4)
  go_ret
  obtain ⟨hd3, hf3, hl3, hr3, hb3⟩ := HG3.out
  obtain ⟨hq4, hm4, hb4⟩ := H4.out
  have hlt := Hlt.out
  simp only [Bk.l, List.mem_cons, List.not_mem_nil, or_false, forall_eq_or_imp, forall_eq] at hlt
  obtain ⟨l1, l2, l3, l4, l5, l6, l7, l8⟩ := hlt
  have hsz2 := HB2.out.size
  have s1 := Hsp.out.q
  have s2 := Hsp.out.m
  refine ⟨rfl, r3, d3, ⟨hd3.but hb4 (by simp; omega) (by simp; omega) (by simp; omega), hf3, hl3.but hb4 (by simp; omega) (by simp [Bk.row]; omega) (by simp; omega), hq4, hm4, ⟨by simp only [Bk.row]; omega, by simp only [Bk.row]; omega⟩, ⟨HSy.out, Hcn.out, Hhd.out.n8, Hhd.out.nb, Hk.out⟩⟩, by omega, ?_⟩
  exact ((((But.refl B.l w).below HB2.out (Nat.le_refl _)).trans (hb3.mono (by simp [Bk.l]))).trans (hb4.mono (by simp [Bk.l])))
end Q
end Go.Proofs.YtmcalgnpinolmaaGreat
namespace Go.Proofs.YtmcalgnpinolmaaGreat
open Go.RowKit Go.Maps
set_option linter.unusedVariables false
set_option linter.unusedSimpArgs false
set_option maxRecDepth 20000
namespace Q
variable {B : Bk} {G : Gm} {s : St}

/-- what may change behind is there, or new -/
theorem but_new {l m : List Nat} {a b c : World} (h : But l a b) (h2 : But m b c) (hm : ∀ x ∈ m, x ∈ l ∨ a.heap.size ≤ x) : But l a c :=
  ⟨h2.os.trans h.os, h2.tape.trans h.tape, h2.output.trans h.output, Nat.le_trans h.size h2.size, fun i hi hn => (h2.block i (Nat.lt_of_lt_of_le hi h.size) (fun z => by rcases hm i z with y | y; exact hn y; omega)).trans (h.block i hi hn)⟩
theorem row_l {B : Bk} {r z : Nat} (h : r = B.rb ∨ z ≤ r) : ∀ x ∈ (B.row r).l, x ∈ B.l ∨ z ≤ x := by
  intro x hx
  simp only [Bk.l, Bk.row, List.mem_cons, List.not_mem_nil, or_false] at hx ⊢
  omega

theorem trim_cg (w : World) (h : CG w B G s) (hK : s.K ≤ 1000000000) (hg : 1 ≤ s.L.rs.length) (hh : Hold G.nb G.N (s.L.cut 1) s.E s.k) (x : Int) (hx : x = s.L.head + 1) :
    Calls Tryz.prog 126 #[.pointer (some ⟨B.lB, 0, none⟩), .int .i64 x] w fun e w' => e = .returned (.int .i64 0) ∧ ∃ d' c', CG w' B G ⟨d', c', s.L.cut 1, s.E, s.k, s.K + 1⟩ ∧ But B.l w w' := by
  subst hx
  refine (trim_lg w h.dv h.fr h.lg hK 1 hg).mono ?_
  rintro e w' ⟨rfl, d', c', hd, hf, hl, hb, _, _⟩
  have s1 := h.sp.q
  have s2 := h.sp.m
  exact ⟨rfl, d', c', ⟨hd, hf, hl, h.qc.but hb (by simp; omega), h.mp.but hb (by simp; omega), h.sp, hh⟩, hb.mono (by simp [Bk.l])⟩

theorem head_in {w : World} (h : CG w B G s) (hK : s.K ≤ 1000000000) : 1 ≤ s.L.head ∧ s.L.head ≤ 1000000000 := by
  have h1 := h.lg.gd.ring.h1
  have h2 := h.lg.gd.tail
  unfold M.Lg.tail at h2
  omega

set_option maxHeartbeats 2000000 in
theorem letGo_cg (w : World) (h : CG w B G s) (hK : s.K ≤ 900000000) {L0 : M.Lg} {V : Vm} {i : Nat} (u : Under G.nb G.N L0 V s.k i s.L s.E) (hf : G.N - 3 ≤ s.L.rs.length) :
    Calls Tryz.prog 100 #[.pointer (some ⟨B.qB, 0, none⟩)] w fun e w' => e = .returned (.int .i64 0) ∧ ∃ r s', CG w' (B.row r) G s' ∧ s'.k = s.k ∧ s'.K ≤ s.K + 2 ∧ Under G.nb G.N L0 V s.k (i + 1) s'.L s'.E ∧ (r = B.rb ∨ w.heap.size ≤ r) ∧ But B.l w w' := by
  obtain ⟨f1, f2, f3⟩ := u.few hf
  have hhd := head_in h (by omega)
  have hlen : s.L.rs.length < G.N := by have := u.le; have := u.l0; have := h.hd.n8; omega
  have HL := Lib.hid (laidBy_q w h.qc h.mp s.L.head)
  have H := Lib.hid h
  have HK := Lib.hid hK
  have p0 := h.qc.p0
  have hI0 : (0 : Int) ≤ s.L.head := by omega
  have hI1 : s.L.head ≤ 4611686018427387904 := by omega
  have HA := Lib.hid (And.intro u (And.intro hf (And.intro f3 hlen)))
  clear h hK u hf f1 f2 f3 hlen hhd
  go_enter Tryz.func100, Tryz.ntmps100
  go_wp2_with (go_at_call 45; with_reducible refine (head_lg w H.out.lg).mono ?_; rintro e w' ⟨rfl, rfl⟩)
  refine HL.out.mono ?_
  rintro e w1 ⟨v, rfl, hv, hb1⟩
  have HB1 := Lib.hid hb1
  clear HL
  rcases hv with ⟨b, x, hx, hp, rfl⟩ | ⟨hn, rfl⟩
  · obtain ⟨u, hf, f3, hlen⟩ := HA.out
    obtain ⟨v1, v2, v3⟩ := u.live hf hx hp
    have HV := Lib.hid (And.intro v1 (And.intro v2 v3))
    have HX := Lib.hid (And.intro hx hp)
    obtain ⟨xe, xpos⟩ := x
    obtain ⟨xb, xp, xq, xd, xy, xc, xn⟩ := xe
    have HB2 : Hid (Below w.heap.size w (w1.alloc (.cells #[.int .i64 xb, .int .i64 xp, .int .i64 xq, .string xd, .bool xy, .int .i64 xc, .int .i64 xn] 37)).drew) := Lib.hid ((HB1.out.alloc HB1.out.size _).drew)
    have HG2 := Lib.hid (H.out.below HB2.out)
    have hc : ∀ o v, (#[.int .i64 xb, .int .i64 xp, .int .i64 xq, .string xd, .bool xy, .int .i64 xc, .int .i64 xn] : Array Value)[o]? = some v → (w1.alloc (.cells #[.int .i64 xb, .int .i64 xp, .int .i64 xq, .string xd, .bool xy, .int .i64 xc, .int .i64 xn] 37)).cell? ⟨w1.heap.size, o, none⟩ = some v := fun o v ho => by
      rw [World.cell?_alloc_mark]; exact ho
    have hcm : num G.nb (vis (step s.E (.lay ⟨xb, xp, xq, xd, xy, xc, xn⟩) s.L.tail)) ≤ G.N - 6 := v2.hold.cn
    have HC := Lib.hid (come_cg _ HG2.out (by have := HK.out; omega) hlen (.lay ⟨xb, xp, xq, xd, xy, xc, xn⟩) v1 s.k H.out.hd.kk hcm)
    have k0 := HG2.out.qc.p0
    have k4 := HG2.out.qc.p4
    have k5 := HG2.out.qc.p5
    have k6 := HG2.out.qc.p6
    have k7 := HG2.out.qc.p7
    have k8 := HG2.out.qc.p8
    have k9 := HG2.out.qc.p9
    unfold recV Deed.val En.val at HC
    unfold En.val
    have HS1 : Hid ((w1.alloc (.cells #[.int .i64 xb, .int .i64 xp, .int .i64 xq, .string xd, .bool xy, .int .i64 xc, .int .i64 xn] 37)).drew.cell? ⟨w1.heap.size, 0, none⟩ = some (.int .i64 xb) ∧ (w1.alloc (.cells #[.int .i64 xb, .int .i64 xp, .int .i64 xq, .string xd, .bool xy, .int .i64 xc, .int .i64 xn] 37)).drew.cell? ⟨w1.heap.size, 1, none⟩ = some (.int .i64 xp) ∧ (w1.alloc (.cells #[.int .i64 xb, .int .i64 xp, .int .i64 xq, .string xd, .bool xy, .int .i64 xc, .int .i64 xn] 37)).drew.cell? ⟨w1.heap.size, 2, none⟩ = some (.int .i64 xq) ∧ (w1.alloc (.cells #[.int .i64 xb, .int .i64 xp, .int .i64 xq, .string xd, .bool xy, .int .i64 xc, .int .i64 xn] 37)).drew.cell? ⟨w1.heap.size, 3, none⟩ = some (.string xd) ∧ (w1.alloc (.cells #[.int .i64 xb, .int .i64 xp, .int .i64 xq, .string xd, .bool xy, .int .i64 xc, .int .i64 xn] 37)).drew.cell? ⟨w1.heap.size, 4, none⟩ = some (.bool xy) ∧ (w1.alloc (.cells #[.int .i64 xb, .int .i64 xp, .int .i64 xq, .string xd, .bool xy, .int .i64 xc, .int .i64 xn] 37)).drew.cell? ⟨w1.heap.size, 5, none⟩ = some (.int .i64 xc) ∧ (w1.alloc (.cells #[.int .i64 xb, .int .i64 xp, .int .i64 xq, .string xd, .bool xy, .int .i64 xc, .int .i64 xn] 37)).drew.cell? ⟨w1.heap.size, 6, none⟩ = some (.int .i64 xn) ∧ (w1.alloc (.cells #[.int .i64 xb, .int .i64 xp, .int .i64 xq, .string xd, .bool xy, .int .i64 xc, .int .i64 xn] 37)).drew.cell? ⟨B.qB, 4, none⟩ = some (.int .i64 s.k.ep) ∧ (w1.alloc (.cells #[.int .i64 xb, .int .i64 xp, .int .i64 xq, .string xd, .bool xy, .int .i64 xc, .int .i64 xn] 37)).drew.cell? ⟨B.qB, 5, none⟩ = some (.int .i64 s.k.sq) ∧ (w1.alloc (.cells #[.int .i64 xb, .int .i64 xp, .int .i64 xq, .string xd, .bool xy, .int .i64 xc, .int .i64 xn] 37)).drew.cell? ⟨B.qB, 6, none⟩ = some (.int .i64 s.k.t0) ∧ (w1.alloc (.cells #[.int .i64 xb, .int .i64 xp, .int .i64 xq, .string xd, .bool xy, .int .i64 xc, .int .i64 xn] 37)).drew.cell? ⟨B.qB, 7, none⟩ = some (.int .i64 s.k.t1) ∧ (w1.alloc (.cells #[.int .i64 xb, .int .i64 xp, .int .i64 xq, .string xd, .bool xy, .int .i64 xc, .int .i64 xn] 37)).drew.cell? ⟨B.qB, 8, none⟩ = some (.int .i64 s.k.t2) ∧ (w1.alloc (.cells #[.int .i64 xb, .int .i64 xp, .int .i64 xq, .string xd, .bool xy, .int .i64 xc, .int .i64 xn] 37)).drew.cell? ⟨B.qB, 9, none⟩ = some (.int .i64 s.k.t3)) := Lib.hid ⟨hc 0 _ rfl, hc 1 _ rfl, hc 2 _ rfl, hc 3 _ rfl, hc 4 _ rfl, hc 5 _ rfl, hc 6 _ rfl, k4, k5, k6, k7, k8, k9⟩
    have HW1 : Hid (w.heap.size ≤ w1.heap.size) := Lib.hid HB1.out.size
    have HS2 : Hid (∀ w', But B.l (w1.alloc (.cells #[.int .i64 xb, .int .i64 xp, .int .i64 xq, .string xd, .bool xy, .int .i64 xc, .int .i64 xn] 37)).drew w' → CacheC w' B.qB B.lB G.N G.nb B.mE s.k → w'.cell? ⟨w1.heap.size, 0, none⟩ = some (.int .i64 xb) ∧ w'.cell? ⟨w1.heap.size, 1, none⟩ = some (.int .i64 xp) ∧ w'.cell? ⟨w1.heap.size, 2, none⟩ = some (.int .i64 xq) ∧ w'.cell? ⟨w1.heap.size, 3, none⟩ = some (.string xd) ∧ w'.cell? ⟨w1.heap.size, 4, none⟩ = some (.bool xy) ∧ w'.cell? ⟨w1.heap.size, 5, none⟩ = some (.int .i64 xc) ∧ w'.cell? ⟨w1.heap.size, 6, none⟩ = some (.int .i64 xn) ∧ w'.cell? ⟨B.qB, 4, none⟩ = some (.int .i64 s.k.ep) ∧ w'.cell? ⟨B.qB, 5, none⟩ = some (.int .i64 s.k.sq) ∧ w'.cell? ⟨B.qB, 6, none⟩ = some (.int .i64 s.k.t0) ∧ w'.cell? ⟨B.qB, 7, none⟩ = some (.int .i64 s.k.t1) ∧ w'.cell? ⟨B.qB, 8, none⟩ = some (.int .i64 s.k.t2) ∧ w'.cell? ⟨B.qB, 9, none⟩ = some (.int .i64 s.k.t3)) := Lib.hid (fun w' hb g => by
      have hl : w1.heap.size ∉ B.l := fun z => by have := H.out.lt _ z; have := HB1.out.size; omega
      have e : ∀ o, w'.cell? ⟨w1.heap.size, o, none⟩ = (w1.alloc (.cells #[.int .i64 xb, .int .i64 xp, .int .i64 xq, .string xd, .bool xy, .int .i64 xc, .int .i64 xn] 37)).cell? ⟨w1.heap.size, o, none⟩ := fun o => hb.cell (by simp) hl
      exact ⟨by rw [e]; exact hc 0 _ rfl, by rw [e]; exact hc 1 _ rfl, by rw [e]; exact hc 2 _ rfl, by rw [e]; exact hc 3 _ rfl, by rw [e]; exact hc 4 _ rfl, by rw [e]; exact hc 5 _ rfl, by rw [e]; exact hc 6 _ rfl, g.p4, g.p5, g.p6, g.p7, g.p8, g.p9⟩)
    clear hcm hc v1 v2 v3 hx hp u hf f3 hlen p0 hb1 k0 k4 k5 k6 k7 k8 k9
    go_wp2_with fail
    generalize (w1.alloc (.cells #[.int .i64 xb, .int .i64 xp, .int .i64 xq, .string xd, .bool xy, .int .i64 xc, .int .i64 xn] 37)) = w2 at *
    go_region_held3 (fun w' => w'.cell? ⟨w1.heap.size, 0, none⟩ = some (.int .i64 xb) ∧ w'.cell? ⟨w1.heap.size, 1, none⟩ = some (.int .i64 xp) ∧ w'.cell? ⟨w1.heap.size, 2, none⟩ = some (.int .i64 xq) ∧ w'.cell? ⟨w1.heap.size, 3, none⟩ = some (.string xd) ∧ w'.cell? ⟨w1.heap.size, 4, none⟩ = some (.bool xy) ∧ w'.cell? ⟨w1.heap.size, 5, none⟩ = some (.int .i64 xc) ∧ w'.cell? ⟨w1.heap.size, 6, none⟩ = some (.int .i64 xn) ∧ w'.cell? ⟨B.qB, 4, none⟩ = some (.int .i64 s.k.ep) ∧ w'.cell? ⟨B.qB, 5, none⟩ = some (.int .i64 s.k.sq) ∧ w'.cell? ⟨B.qB, 6, none⟩ = some (.int .i64 s.k.t0) ∧ w'.cell? ⟨B.qB, 7, none⟩ = some (.int .i64 s.k.t1) ∧ w'.cell? ⟨B.qB, 8, none⟩ = some (.int .i64 s.k.t2) ∧ w'.cell? ⟨B.qB, 9, none⟩ = some (.int .i64 s.k.t3))
      (first
        | exact HS1.out
        | exact HS3.out)
      (first
        | (go_at_call 78; with_reducible refine HC.out.mono ?_; rintro e w3 ⟨rfl, r3, d3, hg3, hr3, hb3⟩
           have HG3 := Lib.hid hg3
           have HR3 := Lib.hid (And.intro hr3 hb3)
           have HS3 := Lib.hid (HS2.out w3 hb3 hg3.qc)
           clear hg3 hr3 hb3))
    have k0 : w3.cell? ⟨B.qB, 0, none⟩ = some (.pointer (some ⟨B.lB, 0, none⟩)) := HG3.out.qc.p0
    have hT : Hid (∀ x, x = s.L.head + 1 → Calls Tryz.prog 126 #[.pointer (some ⟨B.lB, 0, none⟩), .int .i64 x] w3 fun e w' => e = .returned (.int .i64 0) ∧ ∃ d' c', CG w' (B.row r3) G ⟨d', c', (s.L.add (txQ (.lay ⟨xb, xp, xq, xd, xy, xc, xn⟩) s.k)).cut 1, step s.E (.lay ⟨xb, xp, xq, xd, xy, xc, xn⟩) s.L.tail, s.k, s.K + 1 + 1⟩ ∧ But (B.row r3).l w3 w') := Lib.hid (fun x hx => trim_cg w3 HG3.out (by have := HK.out; simp only; omega) (by simp [M.Lg.add]) (HV.out.2.1.hold) x hx)
    go_wp2_with (go_at_call 126; with_reducible refine (hT.out _ rfl).mono ?_; rintro e w4 ⟨rfl, d4, c4, hg4, hb4⟩
                 have HG4 := Lib.hid (And.intro hg4 hb4)
                 clear hg4 hb4)
    go_ret
    obtain ⟨hg4, hb4⟩ := HG4.out
    obtain ⟨hr3, hb3⟩ := HR3.out
    refine ⟨rfl, r3, _, hg4, rfl, by simp only; omega, HV.out.2.1, ?_, ?_⟩
    · rcases hr3 with hr3 | hr3
      · exact .inl hr3
      · exact .inr (Nat.le_trans HB2.out.size hr3)
    · refine but_new (((But.refl B.l w).below HB2.out (Nat.le_refl _)).trans hb3) hb4 (row_l ?_)
      rcases hr3 with hr3 | hr3
      · exact .inl hr3
      · exact .inr (Nat.le_trans HB2.out.size hr3)
  · obtain ⟨u, hf, f3, hlen⟩ := HA.out
    have HV := Lib.hid (u.dead hf hn)
    have HB2 : Hid (Below w.heap.size w (w1.alloc (.cells #[.int .i64 0, .int .i64 0, .int .i64 0, .string ⟨#[]⟩, .bool false, .int .i64 0, .int .i64 0] 37))) := Lib.hid (HB1.out.alloc HB1.out.size _)
    have HG2 := Lib.hid (H.out.below HB2.out)
    have k0 := HG2.out.qc.p0
    have hT : Hid (∀ x, x = s.L.head + 1 → Calls Tryz.prog 126 #[.pointer (some ⟨B.lB, 0, none⟩), .int .i64 x] (w1.alloc (.cells #[.int .i64 0, .int .i64 0, .int .i64 0, .string ⟨#[]⟩, .bool false, .int .i64 0, .int .i64 0] 37)) fun e w' => e = .returned (.int .i64 0) ∧ ∃ d' c', CG w' B G ⟨d', c', s.L.cut 1, s.E, s.k, s.K + 1⟩ ∧ But B.l (w1.alloc (.cells #[.int .i64 0, .int .i64 0, .int .i64 0, .string ⟨#[]⟩, .bool false, .int .i64 0, .int .i64 0] 37)) w') := Lib.hid (fun x hx => trim_cg _ HG2.out (by have := HK.out; omega) (by omega) HV.out.hold x hx)
    unfold zeroE En.val
    clear p0 hb1 u hf f3 hlen hn
    go_wp2_with (go_at_call 126; with_reducible refine (hT.out _ rfl).mono ?_; rintro e w4 ⟨rfl, d4, c4, hg4, hb4⟩
                 have HG4 := Lib.hid (And.intro hg4 hb4)
                 clear hg4 hb4)
    go_ret
    obtain ⟨hg4, hb4⟩ := HG4.out
    exact ⟨rfl, B.rb, _, hg4, rfl, by simp only; omega, HV.out, .inl rfl, ((But.refl B.l w).below HB2.out (Nat.le_refl _)).trans hb4⟩

/-- how it is while room is made -/
structure Rm (w0 : World) (B : Bk) (G : Gm) (s : St) (i : Nat) (w : World) (r : Nat) (s' : St) : Prop where
  cg : CG w (B.row r) G s'
  k : s'.k = s.k
  K : s'.K ≤ s.K + 2 * i
  un : Under G.nb G.N s.L (vis s.E) s.k i s'.L s'.E
  r : r = B.rb ∨ w0.heap.size ≤ r
  bu : But B.l w0 w

theorem Rm.drewN {w0 w : World} {i r : Nat} {s' : St} (h : Rm w0 B G s i w r s') (j : Nat) : Rm w0 B G s i (w.drewN j) r s' :=
  ⟨h.cg.below (below_drewN _ _ _), h.k, h.K, h.un, h.r, (h.bu.below (below_drewN _ _ _) h.bu.size)⟩

set_option maxHeartbeats 2000000 in
theorem makeRoom_cg (w : World) (h : CG w B G s) (hK : s.K ≤ 800000000) (hl : s.L.rs.length ≤ G.N - 2) :
    Calls Tryz.prog 77 #[.pointer (some ⟨B.qB, 0, none⟩)] w fun e w' => e = .returned (.int .i64 0) ∧ ∃ r s', CG w' (B.row r) G s' ∧ s'.k = s.k ∧ vis s'.E = vis s.E ∧ s'.K ≤ s.K + 2000 ∧ s'.L.rs.length ≤ G.N - 4 ∧ (r = B.rb ∨ w.heap.size ≤ r) ∧ But B.l w w' := by
  have p1 := h.qc.p1
  have hN : G.N ≤ 512 := by have := h.lg.geo.fn; have := h.lg.geo.n5; omega
  have hNI : (G.N : Int) ≤ 512 := by omega
  have HN := Lib.hid (And.intro hN h.hd.n8)
  have HK := Lib.hid hK
  have H0 : Hid (Rm w B G s 0 w B.rb s) := Lib.hid ⟨h, rfl, by omega, Under.start h.hd hl, .inl rfl, But.refl _ _⟩
  clear h hK hl hN
  go_enter Tryz.func77, Tryz.ntmps77
  go_wp2_with fail
  go_loopw [8] (fun i wr => ∃ (k r : Nat) (s' : St), k ≤ G.N ∧ i = .int .i64 k ∧ Rm w B G s k wr r s') (fun i _ => G.N - (RowKit.intOf i).toNat)
  case atStart => exact ⟨0, _, _, by omega, rfl, H0.out⟩
  case round =>
    obtain ⟨k, r, s', hk, rfl, hR⟩ := hrel
    have HR := Lib.hid hR
    have q0 : wr.cell? ⟨B.qB, 0, none⟩ = some (.pointer (some ⟨B.lB, 0, none⟩)) := hR.cg.qc.p0
    have hF : Hid (∀ w', Rm w B G s k w' r s' → Calls Tryz.prog 99 #[.pointer (some ⟨B.lB, 0, none⟩)] w' fun e w'' => e = .returned (.int .i64 ((G.N : Int) - s'.L.rs.length)) ∧ ∃ j, w'' = w'.drewN j) := Lib.hid (fun w' hw => free_lg w' hw.cg.lg)
    have hlen : s'.L.rs.length ≤ G.N := hR.cg.lg.gd.ring.len
    have hlI : (s'.L.rs.length : Int) ≤ (G.N : Int) := by omega
    have hl0 : (0 : Int) ≤ (s'.L.rs.length : Int) := by omega
    have HKk := Lib.hid hk
    clear hR
    by_cases hfree : G.N - 3 ≤ s'.L.rs.length
    · have HLG : Hid (∀ w1, Rm w B G s k w1 r s' → Calls Tryz.prog 100 #[.pointer (some ⟨B.qB, 0, none⟩)] w1 fun e w2 => e = .returned (.int .i64 0) ∧ ∃ r2 s2, Rm w B G s (k + 1) w2 r2 s2) := Lib.hid (fun w1 a1 => by
        refine (letGo_cg w1 a1.cg (by have := a1.K; have := HKk.out; have := HN.out; have := HK.out; omega) (a1.k.symm ▸ a1.un) hfree).mono ?_
        rintro e w2 ⟨rfl, r2, s2, hg2, hk2, hK2, hu2, hr2, hb2⟩
        refine ⟨rfl, r2, s2, hg2, hk2.trans a1.k, by have := a1.K; omega, a1.k ▸ hu2, ?_, but_new a1.bu hb2 (row_l a1.r)⟩
        rcases hr2 with z | z
        · rw [z]; exact a1.r
        · exact .inr (Nat.le_trans a1.bu.size z))
      have hlt : k < G.N := by have := HR.out.un.few hfree; omega
      have hltI : (k : Int) < (G.N : Int) := by omega
      have hfI : ¬ ((4 : Int) ≤ (G.N : Int) - (s'.L.rs.length : Int)) := by omega
      have HFr := Lib.hid (And.intro hfree hlt)
      clear hfree hlt hk hlen
      go_wp2_with (first
        | (go_at_call 99; with_reducible refine (hF.out _ HR.out).mono ?_; rintro e w1 ⟨rfl, j1, hj⟩
           have HR1 : Hid (Rm w B G s k w1 r s') := Lib.hid (by rw [hj]; exact HR.out.drewN j1)
           clear hj)
        | (go_at_call 100; with_reducible refine (HLG.out _ HR1.out).mono ?_; rintro e w2 ⟨rfl, r2, s2, hr2⟩; have HR2 := Lib.hid hr2; clear hr2))
      go_roundw
      case rel => exact ⟨k + 1, r2, s2, by have := HFr.out.2; omega, by go_num, HR2.out⟩
      case measure => have := HFr.out.2; simp [RowKit.intOf]; omega
    · have hfI : ((4 : Int) ≤ (G.N : Int) - (s'.L.rs.length : Int)) := by omega
      have HFr := Lib.hid hfree
      clear hfree hlen
      have HE : Hid (∀ w', Rm w B G s k w' r s' → ∃ r s', CG w' (B.row r) G s' ∧ s'.k = s.k ∧ vis s'.E = vis s.E ∧ s'.K ≤ s.K + 2000 ∧ s'.L.rs.length ≤ G.N - 4 ∧ (r = B.rb ∨ w.heap.size ≤ r) ∧ But B.l w w') := Lib.hid (fun w' a => ⟨r, s', a.cg, a.k, a.un.vis, by have := a.K; have := HKk.out; have := HN.out; omega, by have := HFr.out; omega, a.r, a.bu⟩)
      by_cases hlt : k < G.N
      · have hltI : (k : Int) < (G.N : Int) := by omega
        clear hlt hk
        go_wp2_with (first
          | (go_at_call 99; with_reducible refine (hF.out _ HR2.out).mono ?_; rintro e w2 ⟨rfl, j2, hj⟩
             have HR3 : Hid (Rm w B G s k w2 r s') := Lib.hid (by rw [hj]; exact HR2.out.drewN j2)
             clear hj)
          | (go_at_call 99; with_reducible refine (hF.out _ HR.out).mono ?_; rintro e w1 ⟨rfl, j1, hj⟩
             have HR2 : Hid (Rm w B G s k w1 r s') := Lib.hid (by rw [hj]; exact HR.out.drewN j1)
             have q1 : w1.cell? ⟨B.qB, 0, none⟩ = some (.pointer (some ⟨B.lB, 0, none⟩)) := HR2.out.cg.qc.p0
             clear hj))
        go_ret
        exact ⟨rfl, HE.out _ HR3.out⟩
      · obtain rfl : k = G.N := by omega
        have hltI : ¬ (G.N : Int) < (G.N : Int) := by omega
        clear hlt hk
        go_wp2_with (first
          | (go_at_call 99; with_reducible refine (hF.out _ HR.out).mono ?_; rintro e w1 ⟨rfl, j1, hj⟩
             have HR2 : Hid (Rm w B G s G.N w1 r s') := Lib.hid (by rw [hj]; exact HR.out.drewN j1)
             clear hj))
        go_ret
        exact ⟨rfl, HE.out _ HR2.out⟩
end Q
end Go.Proofs.YtmcalgnpinolmaaGreat
namespace Go.Proofs.YtmcalgnpinolmaaGreat
open Go.RowKit Go.Maps
set_option linter.unusedVariables false
set_option linter.unusedSimpArgs false
set_option maxRecDepth 20000
namespace Q
variable {B : Bk} {G : Gm} {s : St}

/-- what a record makes of what is seen -/
def stepV (V : Vm) : Deed → Vm
  | .lay e => updV V e.b (some e)
  | .clean b ep sq => match V b with
    | some x => if x.ep = ep ∧ x.sq = sq then updV V b (some { x with dirty := false }) else V
    | none => V
  | .drop b => updV V b none
  | .note => V
theorem vis_step (E : Mp) (d : Deed) (p : Int) : vis (step E d p) = stepV (vis E) d := by
  cases d with
  | lay e => simp only [step, stepV]; rw [vis_upd]; rfl
  | clean b ep sq =>
    simp only [step, stepV]
    have e : vis E b = (E b).map (·.e) := rfl
    rw [e]
    cases hE : E b with
    | none => rfl
    | some x =>
      simp only [Option.map_some]
      split
      · rw [vis_upd]; rfl
      · rfl
  | drop b => simp only [step, stepV]; rw [vis_upd]; rfl
  | note => rfl

def Adm (nb N : Nat) : Vm → List (Deed × Kp) → Prop
  | _, [] => True
  | V, (d, k) :: l => MayD nb d ∧ MayK k ∧ num nb (stepV V d) ≤ N - 6 ∧ Adm nb N (stepV V d) l
def runV : Vm → List (Deed × Kp) → Vm
  | V, [] => V
  | V, x :: l => runV (stepV V x.1) l
theorem runV_snoc (V : Vm) (l : List (Deed × Kp)) (x : Deed × Kp) : runV V (l ++ [x]) = stepV (runV V l) x.1 := by
  induction l generalizing V with
  | nil => rfl
  | cons y l ih => exact ih _
theorem Adm.at {nb N : Nat} {V : Vm} {l : List (Deed × Kp)} (h : Adm nb N V l) {i : Nat} {d : Deed} {k : Kp} (hi : l[i]? = some (d, k)) : MayD nb d ∧ MayK k ∧ num nb (stepV (runV V (l.take i)) d) ≤ N - 6 := by
  induction l generalizing V i with
  | nil => simp at hi
  | cons y l ih =>
    obtain ⟨d', k'⟩ := y
    obtain ⟨h1, h2, h3, h4⟩ := h
    cases i with
    | zero => simp at hi; obtain ⟨rfl, rfl⟩ := hi; exact ⟨h1, h2, h3⟩
    | succ i => exact ih h4 (by simpa using hi)

/-- records in a row of the call's own -/
def RowD (w : World) (b : Nat) (l : List (Deed × Kp)) : Prop := b < w.heap.size ∧ ∀ i d k, l[i]? = some (d, k) →
  w.cell? ⟨b, i * 7, none⟩ = some (Deed.val d) ∧ w.cell? ⟨b, i * 7 + 1, none⟩ = some (.int .i64 k.ep) ∧ w.cell? ⟨b, i * 7 + 2, none⟩ = some (.int .i64 k.sq) ∧ w.cell? ⟨b, i * 7 + 3, none⟩ = some (.int .i64 k.t0) ∧ w.cell? ⟨b, i * 7 + 4, none⟩ = some (.int .i64 k.t1) ∧ w.cell? ⟨b, i * 7 + 5, none⟩ = some (.int .i64 k.t2) ∧ w.cell? ⟨b, i * 7 + 6, none⟩ = some (.int .i64 k.t3)
theorem RowD.but {w w' : World} {b : Nat} {l : List (Deed × Kp)} (h : RowD w b l) {q : List Nat} (hb : But q w w') (hn : b ∉ q) : RowD w' b l := by
  obtain ⟨h1, h2⟩ := h
  refine ⟨Nat.lt_of_lt_of_le h1 hb.size, fun i d k hi => ?_⟩
  have e : ∀ o, w'.cell? ⟨b, o, none⟩ = w.cell? ⟨b, o, none⟩ := fun o => hb.cell h1 hn
  simp only [e]
  exact h2 i d k hi

/-- how it is while records come -/
structure Br (w0 : World) (B : Bk) (G : Gm) (s : St) (b : Nat) (ds : List (Deed × Kp)) (i : Nat) (w : World) (r : Nat) (s' : St) : Prop where
  cg : CG w (B.row r) G s'
  k : s'.k = lastK s.k (ds.take i)
  v : vis s'.E = runV (vis s.E) (ds.take i)
  K : s'.K ≤ s.K + 2000 + i
  ln : s'.L.rs.length ≤ G.N - 4 + i
  r : r = B.rb ∨ w0.heap.size ≤ r
  bu : But B.l w0 w
  row : RowD w b ds

set_option maxHeartbeats 4000000 in
theorem bring_cg (w : World) (h : CG w B G s) (hK : s.K ≤ 700000000) (hl : s.L.rs.length ≤ G.N - 2) (b cap : Nat) (ds : List (Deed × Kp)) (hds : ds.length ≤ 2) (hrow : RowD w b ds) (hb : b ∉ B.l) (ha : Adm G.nb G.N (vis s.E) ds) :
    Calls Tryz.prog 51 #[.pointer (some ⟨B.qB, 0, none⟩), .slice (some ⟨b, 0, none⟩) ds.length cap] w fun e w' => e = .returned (.int .i64 0) ∧ ∃ r s', CG w' (B.row r) G s' ∧ s'.k = lastK s.k ds ∧ vis s'.E = runV (vis s.E) ds ∧ s'.K ≤ s.K + 2002 ∧ s'.L.rs.length ≤ G.N - 2 ∧ (r = B.rb ∨ w.heap.size ≤ r) ∧ But B.l w w' := by
  have hn8 := h.hd.n8
  have HM : Hid (Calls Tryz.prog 77 #[.pointer (some ⟨B.qB, 0, none⟩)] w fun e w' => e = .returned (.int .i64 0) ∧ ∃ r s', Br w B G s b ds 0 w' r s') := Lib.hid (by
    refine (makeRoom_cg w h (by omega) hl).mono ?_
    rintro e w' ⟨rfl, r, s', h1, h2, h3, h4, h5, h6, h7⟩
    exact ⟨rfl, r, s', h1, h2, h3, by omega, h5, h6, h7, hrow.but h7 hb⟩)
  have HC : Hid (∀ w' i r s' d k t v, Br w B G s b ds i w' r s' → ds[i]? = some (d, k) → d.val = .iface t v → Calls Tryz.prog 78 #[.pointer (some ⟨B.qB, 0, none⟩), .agg #[.iface t v, .int .i64 k.ep, .int .i64 k.sq, .int .i64 k.t0, .int .i64 k.t1, .int .i64 k.t2, .int .i64 k.t3]] w' fun e w'' => e = .returned (.int .i64 0) ∧ ∃ r s', Br w B G s b ds (i + 1) w'' r s') := Lib.hid (fun w' i r s' d k t v a hi hv => by
    obtain ⟨a1, a2, a3⟩ := ha.at hi
    have hi2 : i < ds.length := (List.getElem?_eq_some_iff.1 hi).1
    have hcm : num G.nb (vis (step s'.E d s'.L.tail)) ≤ G.N - 6 := by rw [vis_step, a.v]; exact a3
    have := come_cg w' a.cg (by have := a.K; omega) (by have := a.ln; omega) d a1 k a2 hcm
    unfold recV at this
    rw [hv] at this
    refine this.mono ?_
    rintro e w'' ⟨rfl, r2, d2, hg, hr, hb2⟩
    have htk : ds.take (i + 1) = ds.take i ++ [(d, k)] := by rw [List.take_add_one, hi]; rfl
    refine ⟨rfl, r2, _, hg, ?_, ?_, by have := a.K; simp only; omega, by have := a.ln; simp [M.Lg.add]; omega, ?_, but_new a.bu hb2 (row_l a.r), a.row.but hb2 (fun z => ?_)⟩
    · rw [htk, lastK_snoc]
    · rw [htk, runV_snoc, ← a.v]; exact vis_step _ _ _
    · rcases hr with z | z
      · rw [z]; exact a.r
      · exact .inr (Nat.le_trans a.bu.size z)
    · rcases row_l a.r b z with y | y
      · exact hb y
      · have := hrow.1; omega)
  have HE : Hid (∀ w' r s', Br w B G s b ds ds.length w' r s' → ∃ r s', CG w' (B.row r) G s' ∧ s'.k = lastK s.k ds ∧ vis s'.E = runV (vis s.E) ds ∧ s'.K ≤ s.K + 2002 ∧ s'.L.rs.length ≤ G.N - 2 ∧ (r = B.rb ∨ w.heap.size ≤ r) ∧ But B.l w w') := Lib.hid (fun w' r s' a => ⟨r, s', a.cg, by have := a.k; rwa [List.take_length] at this, by have := a.v; rwa [List.take_length] at this, by have := a.K; omega, by have := a.ln; omega, a.r, a.bu⟩)
  have hdI : (ds.length : Int) ≤ 2 := by omega
  have hd0 : (0 : Int) ≤ (ds.length : Int) := by omega
  clear h hK hl hds hrow hb ha hn8
  go_enter Tryz.func51, Tryz.ntmps51
  go_wp2_with (go_at_call 77; with_reducible refine HM.out.mono ?_; rintro e w1 ⟨rfl, r1, s1, h1⟩; have H1 := Lib.hid h1; clear h1)
  go_loopw [16] (fun i wr => ∃ (k r : Nat) (s' : St), k ≤ ds.length ∧ i = .int .i64 k ∧ Br w B G s b ds k wr r s') (fun i _ => ds.length - (RowKit.intOf i).toNat)
  case atStart => exact ⟨0, _, _, by omega, rfl, H1.out⟩
  case round =>
    obtain ⟨k, r, s', hk, rfl, hR⟩ := hrel
    have HR := Lib.hid hR
    clear hR H1 HM
    by_cases hlt : k < ds.length
    · have hltI : (k : Int) < (ds.length : Int) := by omega
      obtain ⟨⟨d, kk⟩, hx⟩ : ∃ x, ds[k]? = some x := ⟨_, List.getElem?_eq_getElem hlt⟩
      obtain ⟨t, v, hv⟩ := d.val_iface
      obtain ⟨c0, c1, c2, c3, c4, c5, c6⟩ := HR.out.row.2 k d kk hx
      rw [hv] at c0
      have HR2 : Hid (Br w B G s b ds k (wr.alloc (.cells #[.iface t v, .int .i64 kk.ep, .int .i64 kk.sq, .int .i64 kk.t0, .int .i64 kk.t1, .int .i64 kk.t2, .int .i64 kk.t3] 98)) r s') := Lib.hid (by
        have a := HR.out
        have hb := (Below.refl wr.heap.size wr).alloc (Nat.le_refl _) (.cells #[.iface t v, .int .i64 kk.ep, .int .i64 kk.sq, .int .i64 kk.t0, .int .i64 kk.t1, .int .i64 kk.t2, .int .i64 kk.t3] 98)
        exact ⟨a.cg.below hb, a.k, a.v, a.K, a.ln, a.r, a.bu.below hb a.bu.size, a.row.but (But.of_below hb) (by simp)⟩)
      have HX := Lib.hid (HC.out _ _ _ _ _ _ _ _ HR2.out hx hv)
      have HLt := Lib.hid hlt
      clear hlt hx hk
      go_wp2_with (go_at_call 78; with_reducible refine HX.out.mono ?_; rintro e w3 ⟨rfl, r3, s3, h3⟩; have H3 := Lib.hid h3; clear h3)
      go_roundw
      case rel => exact ⟨k + 1, r3, s3, by have := HLt.out; omega, by go_num, H3.out⟩
      case measure => have := HLt.out; simp [RowKit.intOf]; omega
    · obtain rfl : k = ds.length := by omega
      have hltI : ¬ (ds.length : Int) < (ds.length : Int) := by omega
      clear hlt hk
      go_wp2_with fail
      go_ret
      exact ⟨rfl, HE.out _ _ _ HR.out⟩
end Q
end Go.Proofs.YtmcalgnpinolmaaGreat
namespace Go.Proofs.YtmcalgnpinolmaaGreat
open Go.RowKit Go.Maps
set_option linter.unusedVariables false
set_option linter.unusedSimpArgs false
set_option maxRecDepth 20000
namespace Q
variable {B : Bk} {G : Gm} {V : Vi} {K : Int}

/-- a cache, as it is seen -/
def Cs (w : World) (B : Bk) (G : Gm) (V : Vi) (K : Int) : Prop := ∃ s, CG w B G s ∧ vis s.E = V.e ∧ s.k = V.k ∧ s.K ≤ K ∧ s.L.rs.length ≤ G.N - 2

theorem Cs.but {w w' : World} (h : Cs w B G V K) {q : List Nat} (hb : But q w w') (hq : ∀ x ∈ B.l, x ∉ q) : Cs w' B G V K := by
  obtain ⟨s, h1, h2⟩ := h
  exact ⟨s, h1.but hb hq, h2⟩
theorem Cs.below {w w' : World} (h : Cs w B G V K) (hb : Below w.heap.size w w') : Cs w' B G V K := h.but (But.of_below hb) (by simp)
theorem Cs.lt {w : World} (h : Cs w B G V K) : ∀ x ∈ B.l, x < w.heap.size := by
  obtain ⟨s, h1, _⟩ := h
  exact h1.lt
theorem Cs.mono {w : World} {K' : Int} (h : Cs w B G V K) (hk : K ≤ K') : Cs w B G V K' := by
  obtain ⟨s, h1, h2, h3, h4, h5⟩ := h
  exact ⟨s, h1, h2, h3, by omega, h5⟩
theorem Cs.qc {w : World} (h : Cs w B G V K) : CacheC w B.qB B.lB G.N G.nb B.mE V.k := by
  obtain ⟨s, h1, _, h3, _⟩ := h
  rw [← h3]; exact h1.qc
/-- what holds of what is seen -/
structure VOk (nb N : Nat) (V : Vi) : Prop where
  key : ∀ b x, V.e b = some x → x.b = b
  may : ∀ b x, V.e b = some x → MayE nb x
  cn : num nb V.e ≤ N - 6
  n8 : 8 ≤ N
  nb : nb ≤ 32
  kk : MayK V.k
theorem Cs.ok {w : World} (h : Cs w B G V K) : VOk G.nb G.N V := by
  obtain ⟨s, h1, h2, h3, _⟩ := h
  have o := h1.hd.ok
  refine ⟨fun b x hx => ?_, fun b x hx => ?_, by rw [← h2]; exact h1.hd.cn, h1.hd.n8, h1.hd.nb, by rw [← h3]; exact h1.hd.kk⟩
  · rw [← h2] at hx
    unfold vis at hx
    cases hE : s.E b with
    | none => rw [hE] at hx; cases hx
    | some y => rw [hE] at hx; injection hx with hx; subst hx; exact o.key b y hE
  · rw [← h2] at hx
    unfold vis at hx
    cases hE : s.E b with
    | none => rw [hE] at hx; cases hx
    | some y => rw [hE] at hx; injection hx with hx; subst hx; exact o.may b y hE
theorem VOk.range {nb N : Nat} (h : VOk nb N V) {b : Int} {x : En} (hx : V.e b = some x) : 0 ≤ b ∧ b < (nb : Int) := by
  have h1 := h.may b x hx
  have h2 := h.key b x hx
  have h3 := h1.b0
  have h4 := h1.b1
  omega

theorem room_cs (w : World) (h : Cs w B G V K) : Calls Tryz.prog 24 #[.pointer (some ⟨B.qB, 0, none⟩)] w fun e w' => e = .returned (.int .i64 ((G.N - 6 : Nat) : Int)) ∧ w = w' := by
  have p1 := h.qc.p1
  have hn := h.ok.n8
  have hN : G.N ≤ 512 := by obtain ⟨s, h1, _⟩ := h; have := h1.lg.geo.fn; have := h1.lg.geo.n5; omega
  have e1 : ((G.N - 6 : Nat) : Int) = (G.N : Int) - 6 := by omega
  have e2 : (G.N : Int) ≤ 512 := by omega
  rw [e1]
  clear h hn hN e1
  go_enter Tryz.func24, Tryz.ntmps24
  go_wp2
  go_ret
  exact ⟨by simp, rfl⟩

theorem last_cs (w : World) (h : Cs w B G V K) : Calls Tryz.prog 28 #[.pointer (some ⟨B.qB, 0, none⟩)] w fun e w' => e = .returned (.agg #[.int .i64 V.k.ep, .int .i64 V.k.sq]) ∧ Below w.heap.size w w' := by
  have HB : Hid (Below w.heap.size w (w.alloc (.cells #[.int .i64 0, .int .i64 0] 30))) := Lib.hid ((Below.refl _ _).alloc (Nat.le_refl _) _)
  have g := (h.below HB.out).qc
  have p4 := g.p4
  have p5 := g.p5
  clear h g
  go_enter Tryz.func28, Tryz.ntmps28
  go_wp2
  refine bodyPost_ret_by ?_ rfl ⟨rfl, (Below.refl _ _).alloc (Nat.le_refl _) _⟩
  simp [results, Tryz.results28, go_sem]

theorem number_cs (w : World) (h : Cs w B G V K) (i : Int) : Calls Tryz.prog 27 #[.pointer (some ⟨B.qB, 0, none⟩), .int .i64 i] w fun e w' => e = .returned (.int .i64 (V.k.get i)) ∧ w = w' := by
  have p6 := h.qc.p6
  have p7 := h.qc.p7
  have p8 := h.qc.p8
  have p9 := h.qc.p9
  clear h
  unfold Kp.get
  by_cases h0 : i < 0
  · rw [if_neg (by omega), if_neg (by omega), if_neg (by omega), if_neg (by omega)]
    go_enter Tryz.func27, Tryz.ntmps27
    go_wp2
    go_ret
    exact ⟨rfl, rfl⟩
  · by_cases h4 : 4 ≤ i
    · rw [if_neg (by omega), if_neg (by omega), if_neg (by omega), if_neg (by omega)]
      go_enter Tryz.func27, Tryz.ntmps27
      go_wp2
      go_ret
      exact ⟨rfl, rfl⟩
    · have hi : i = 0 ∨ i = 1 ∨ i = 2 ∨ i = 3 := by omega
      clear h0 h4
      rcases hi with rfl | rfl | rfl | rfl
      all_goals
        simp (config := { decide := true }) only [if_true, if_false]
        go_enter Tryz.func27, Tryz.ntmps27
        go_wp2
        go_ret
        exact ⟨rfl, rfl⟩

/-- an entry that is told: of none it is nothing -/
def entV (x : Option En) : Value := (x.getD zeroE).val

theorem get_cs (w : World) (h : Cs w B G V K) (b : Int) (hb0 : -9223372036854775808 ≤ b) (hb1 : b ≤ 9223372036854775807) : Calls Tryz.prog 25 #[.pointer (some ⟨B.qB, 0, none⟩), .int .i64 b] w fun e w' => e = .returned (.tuple #[entV (V.e b), .bool (V.e b).isSome]) ∧ Below w.heap.size w w' := by
  have HB : Hid (Below w.heap.size w (w.alloc (.cells #[.int .i64 0, .int .i64 0, .int .i64 0, .string ⟨#[]⟩, .bool false, .int .i64 0, .int .i64 0] 37))) := Lib.hid ((Below.refl _ _).alloc (Nat.le_refl _) _)
  obtain ⟨s, hc, hv, hk, _, _⟩ := h.below HB.out
  have p3 := hc.qc.p3
  have hl := (mapq_look hc.mp hb0 hb1).1
  have hE : vis s.E b = V.e b := by rw [hv]
  have hx : ∃ x : La, (s.E b).getD zeroL = x ∧ entV (V.e b) = x.e.val ∧ (V.e b).isSome = (s.E b).isSome := by
    rw [← hE]
    unfold vis entV
    cases s.E b with
    | none => exact ⟨_, rfl, rfl, rfl⟩
    | some y => exact ⟨_, rfl, rfl, rfl⟩
  obtain ⟨x, h1, h2, h3⟩ := hx
  rw [h1, ← h3] at hl
  rw [h2]
  generalize (V.e b).isSome = z at *
  obtain ⟨⟨xb, xp, xq, xd, xy, xc, xn⟩, xpos⟩ := x
  unfold La.val at hl
  unfold En.val
  simp only at hl ⊢
  clear h hc hv hk hE h1 h2 h3 hb0 hb1
  go_enter Tryz.func25, Tryz.ntmps25
  go_wp2
  refine bodyPost_ret_by ?_ rfl ⟨rfl, ?_⟩
  rotate_left
  · exact (((Below.refl w.heap.size w).alloc (Nat.le_refl _) _).alloc (by simp) _)
  · simp [results, Tryz.results25, go_sem]
end Q
end Go.Proofs.YtmcalgnpinolmaaGreat
namespace Go.Proofs.YtmcalgnpinolmaaGreat
open Go.RowKit Go.Maps
set_option linter.unusedVariables false
set_option linter.unusedSimpArgs false
set_option maxRecDepth 20000
namespace Q
variable {B : Bk} {G : Gm} {V : Vi} {K : Int}

theorem bring_cs (w : World) (h : Cs w B G V K) (hK : K ≤ 700000000) (b cap : Nat) (ds : List (Deed × Kp)) (hds : ds.length ≤ 2) (hrow : RowD w b ds) (hb : b ∉ B.l) (ha : Adm G.nb G.N V.e ds) :
    Calls Tryz.prog 51 #[.pointer (some ⟨B.qB, 0, none⟩), .slice (some ⟨b, 0, none⟩) ds.length cap] w fun e w' => e = .returned (.int .i64 0) ∧ ∃ r, Cs w' (B.row r) G ⟨runV V.e ds, lastK V.k ds⟩ (K + 2002) ∧ (r = B.rb ∨ w.heap.size ≤ r) ∧ But B.l w w' := by
  obtain ⟨s, h1, h2, h3, h4, h5⟩ := h
  refine (bring_cg w h1 (by omega) h5 b cap ds hds hrow hb (by rw [h2]; exact ha)).mono ?_
  rintro e w' ⟨rfl, r, s', g1, g2, g3, g4, g5, g6, g7⟩
  exact ⟨rfl, r, ⟨s', g1, by rw [g3, h2], by rw [g2, h3], by omega, g5⟩, g6, g7⟩

theorem rowD_one (w : World) (d : Deed) (k : Kp) {t : TypeId} {v : Value} (hv : d.val = .iface t v) : RowD (w.alloc (.cells #[.iface t v, .int .i64 k.ep, .int .i64 k.sq, .int .i64 k.t0, .int .i64 k.t1, .int .i64 k.t2, .int .i64 k.t3] 98)) w.heap.size [(d, k)] := by
  refine ⟨by simp, fun i d' k' hi => ?_⟩
  have hi0 : i = 0 := by have := (List.getElem?_eq_some_iff.1 hi).1; simpa using this
  subst hi0
  simp at hi
  obtain ⟨rfl, rfl⟩ := hi
  rw [hv]
  refine ⟨?_, ?_, ?_, ?_, ?_, ?_, ?_⟩ <;> (rw [World.cell?_alloc_mark]; rfl)

/-- one record, built just now -/
theorem bring1 (w : World) (h : Cs w B G V K) (hK : K ≤ 700000000) (d : Deed) (k : Kp) (hd : MayD G.nb d) (hk : MayK k) (hcn : num G.nb (stepV V.e d) ≤ G.N - 6) {t : TypeId} {v : Value} (hv : d.val = .iface t v) :
    Calls Tryz.prog 51 #[.pointer (some ⟨B.qB, 0, none⟩), .slice (some ⟨w.heap.size, 0, none⟩) 1 1] (w.alloc (.cells #[.iface t v, .int .i64 k.ep, .int .i64 k.sq, .int .i64 k.t0, .int .i64 k.t1, .int .i64 k.t2, .int .i64 k.t3] 98)) fun e w' => e = .returned (.int .i64 0) ∧ ∃ r, Cs w' (B.row r) G ⟨stepV V.e d, k⟩ (K + 2002) ∧ (r = B.rb ∨ w.heap.size ≤ r) ∧ But B.l w w' := by
  have hb := (Below.refl w.heap.size w).alloc (Nat.le_refl _) (.cells #[.iface t v, .int .i64 k.ep, .int .i64 k.sq, .int .i64 k.t0, .int .i64 k.t1, .int .i64 k.t2, .int .i64 k.t3] 98)
  refine (bring_cs _ (h.below hb) hK w.heap.size 1 [(d, k)] (by simp) (rowD_one w d k hv) (fun z => by have := h.lt _ z; omega) ⟨hd, hk, hcn, trivial⟩).mono ?_
  rintro e w' ⟨rfl, r, g1, g2, g3⟩
  refine ⟨rfl, r, g1, ?_, ((But.refl B.l w).below hb (Nat.le_refl _)).trans g3⟩
  rcases g2 with g2 | g2
  · exact .inl g2
  · exact .inr (by simp at g2; omega)

/-- what a call makes of a cache -/
def After (w : World) (B : Bk) (G : Gm) (V' : Vi) (K' : Int) (w' : World) : Prop := ∃ r, Cs w' (B.row r) G V' K' ∧ (r = B.rb ∨ w.heap.size ≤ r) ∧ But B.l w w'
theorem After.same {w w' : World} (h : Cs w B G V K) (hb : Below w.heap.size w w') {K' : Int} (hk : K ≤ K') : After w B G V K' w' := ⟨B.rb, (h.below hb).mono hk, .inl rfl, (But.refl _ _).below hb (Nat.le_refl _)⟩
theorem After.from {w w1 w' : World} {V' : Vi} {K' : Int} (hb : Below w.heap.size w w1) {r : Nat} (h1 : Cs w' (B.row r) G V' K') (h2 : r = B.rb ∨ w1.heap.size ≤ r) (h3 : But B.l w1 w') : After w B G V' K' w' :=
  ⟨r, h1, by have := hb.size; omega, ((But.refl B.l w).below hb (Nat.le_refl _)).trans h3⟩

def cleanE (V : Vi) (b ep sq : Int) : Int := match V.e b with
  | some x => if x.ep = ep ∧ x.sq = sq then 0 else 10
  | none => 10
def cleanVi (V : Vi) (b ep sq : Int) : Vi := ⟨stepV V.e (.clean b ep sq), V.k⟩
def dropE (V : Vi) (b : Int) : Int := if (V.e b).isSome then 0 else 10
def dropVi (V : Vi) (b : Int) : Vi := ⟨stepV V.e (.drop b), V.k⟩
theorem updV_none {e : Vm} {b : Int} (h : e b = none) : updV e b none = e := by
  funext c
  unfold updV
  by_cases hc : c = b
  · rw [if_pos hc, hc, h]
  · rw [if_neg hc]
theorem updV_some {e : Vm} {b : Int} {x : En} (h : e b = some x) : updV e b (some x) = e := by
  funext c
  unfold updV
  by_cases hc : c = b
  · rw [if_pos hc, hc, h]
  · rw [if_neg hc]
theorem dropVi_no {V : Vi} {b : Int} (h : dropE V b ≠ 0) : dropVi V b = V := by
  unfold dropE at h
  cases hb : V.e b with
  | some x => rw [hb] at h; simp at h
  | none =>
    show (⟨updV V.e b none, V.k⟩ : Vi) = V
    rw [updV_none hb]
theorem cleanVi_none {V : Vi} {b ep sq : Int} (h : V.e b = none) : cleanVi V b ep sq = V := by
  unfold cleanVi stepV
  simp only [h]
theorem cleanVi_other {V : Vi} {b ep sq : Int} {x : En} (h : V.e b = some x) (hn : ¬ (x.ep = ep ∧ x.sq = sq)) : cleanVi V b ep sq = V := by
  unfold cleanVi stepV
  simp only [h, if_neg hn]
theorem cleanVi_clean {V : Vi} {b : Int} {x : En} (h : V.e b = some x) (hd : x.dirty = false) : cleanVi V b x.ep x.sq = V := by
  unfold cleanVi stepV
  simp only [h, and_self, if_true]
  have : ({ x with dirty := false } : En) = x := by obtain ⟨_, _, _, _, y, _, _⟩ := x; simp only at hd; subst hd; rfl
  rw [this, updV_some h]

theorem num_drop {nb : Nat} (e : Vm) (b : Int) : num nb (updV e b none) ≤ num nb e := cnt_mono fun c _ _ h => by
  unfold updV at h
  split at h
  · cases h
  · exact h
theorem num_same {nb : Nat} {e : Vm} {b : Int} {x y : En} (h : e b = some x) : num nb (updV e b (some y)) = num nb e := cnt_congr fun c _ _ => by
  unfold updV
  split
  · rename_i hc; rw [hc, h]; rfl
  · rfl

/-- the map's look-up, by what is seen -/
theorem look_cs {w : World} (h : Cs w B G V K) {b : Int} (hb0 : -9223372036854775808 ≤ b) (hb1 : b ≤ 9223372036854775807) : ∃ x : La, (V.e b = some x.e ∨ (V.e b = none ∧ x = zeroL)) ∧
    (Instr.lookup 90 (.map (some B.mE)) (.int .i64 b) true).run Tryz.prog w = .ok (.tuple #[x.val, .bool (V.e b).isSome]) w := by
  obtain ⟨s, hc, hv, hk, _, _⟩ := h
  have hl := (mapq_look hc.mp hb0 hb1).1
  have hE : vis s.E b = V.e b := by rw [hv]
  rw [← hE]
  unfold vis
  cases hs : s.E b with
  | none => rw [hs] at hl; exact ⟨zeroL, .inr ⟨rfl, rfl⟩, hl⟩
  | some y => rw [hs] at hl; exact ⟨y, .inl rfl, hl⟩

set_option maxHeartbeats 1000000 in
theorem drop_cs (w : World) (h : Cs w B G V K) (hK : K ≤ 600000000) (b : Int) (hb0 : -9223372036854775808 ≤ b) (hb1 : b ≤ 9223372036854775807) :
    Calls Tryz.prog 37 #[.pointer (some ⟨B.qB, 0, none⟩), .int .i64 b] w fun e w' => e = .returned (.int .i64 (dropE V b)) ∧ After w B G (dropVi V b) (K + 2002) w' := by
  obtain ⟨x, hx, hl⟩ := look_cs h hb0 hb1
  have ok := h.ok
  have p3 := h.qc.p3
  obtain ⟨⟨xb, xp, xq, xd, xy, xc, xn⟩, xpos⟩ := x
  unfold La.val at hl
  simp only at hl
  have HB : Hid (Below w.heap.size w (w.alloc (.cells #[.int .i64 xb, .int .i64 xp, .int .i64 xq, .string xd, .bool xy, .int .i64 xc, .int .i64 xn, .int .i64 xpos] 108))) := Lib.hid ((Below.refl _ _).alloc (Nat.le_refl _) _)
  have H1 := Lib.hid (h.below HB.out)
  by_cases hs : (V.e b).isSome = true
  · have he : dropE V b = 0 := if_pos hs
    rw [he]
    rw [hs] at hl
    obtain ⟨y, hy⟩ := Option.isSome_iff_exists.1 hs
    have hr := ok.range hy
    have HC := Lib.hid (bring1 _ H1.out (by omega) (.drop b) V.k hr ok.kk (Nat.le_trans (num_drop _ _) ok.cn) rfl)
    have p4 := H1.out.qc.p4
    have p5 := H1.out.qc.p5
    have p6 := H1.out.qc.p6
    have p7 := H1.out.qc.p7
    have p8 := H1.out.qc.p8
    have p9 := H1.out.qc.p9
    have HE : Hid (∀ w' r, Cs w' (B.row r) G ⟨stepV V.e (.drop b), V.k⟩ (K + 2002) → (r = B.rb ∨ (w.alloc (.cells #[.int .i64 xb, .int .i64 xp, .int .i64 xq, .string xd, .bool xy, .int .i64 xc, .int .i64 xn, .int .i64 xpos] 108)).heap.size ≤ r) → But B.l (w.alloc (.cells #[.int .i64 xb, .int .i64 xp, .int .i64 xq, .string xd, .bool xy, .int .i64 xc, .int .i64 xn, .int .i64 xpos] 108)) w' → After w B G (dropVi V b) (K + 2002) w') := Lib.hid (fun w' r h1 h2 h3 => After.from HB.out h1 h2 h3)
    rw [show (w.alloc (.cells #[.int .i64 xb, .int .i64 xp, .int .i64 xq, .string xd, .bool xy, .int .i64 xc, .int .i64 xn, .int .i64 xpos] 108)).heap.size = w.heap.size + 1 by simp] at HC HE
    clear h hx ok hs hr hy he hK hb0 hb1
    go_enter Tryz.func37, Tryz.ntmps37
    go_wp2_with (go_at_call 51; with_reducible refine HC.out.mono ?_; rintro e w2 ⟨rfl, r2, g1, g2, g3⟩; have HF := Lib.hid (HE.out _ _ g1 g2 g3); clear g1 g2 g3)
    go_ret
    exact ⟨rfl, HF.out⟩
  · have he : dropE V b = 10 := if_neg hs
    have hv : dropVi V b = V := dropVi_no (by rw [he]; decide)
    rw [he, hv]
    have hs2 : (V.e b).isSome = false := by simpa using hs
    rw [hs2] at hl
    have HF : Hid (After w B G V (K + 2002) (w.alloc (.cells #[.int .i64 xb, .int .i64 xp, .int .i64 xq, .string xd, .bool xy, .int .i64 xc, .int .i64 xn, .int .i64 xpos] 108))) := Lib.hid (After.same h HB.out (by omega))
    clear h hx ok hs hs2 he hv hK hb0 hb1 H1
    go_enter Tryz.func37, Tryz.ntmps37
    go_wp2_with fail
    go_ret
    exact ⟨rfl, HF.out⟩

set_option maxHeartbeats 2000000 in
theorem clean_cs (w : World) (h : Cs w B G V K) (hK : K ≤ 600000000) (b ep sq : Int) (hb0 : -9223372036854775808 ≤ b) (hb1 : b ≤ 9223372036854775807) :
    Calls Tryz.prog 26 #[.pointer (some ⟨B.qB, 0, none⟩), .int .i64 b, .agg #[.int .i64 ep, .int .i64 sq]] w fun e w' => e = .returned (.int .i64 (cleanE V b ep sq)) ∧ After w B G (cleanVi V b ep sq) (K + 2002) w' := by
  have HB0 : Hid (Below w.heap.size w (w.alloc (.cells #[.int .i64 ep, .int .i64 sq] 30))) := Lib.hid ((Below.refl _ _).alloc (Nat.le_refl _) _)
  have H0 := Lib.hid (h.below HB0.out)
  obtain ⟨x, hx, hl⟩ := look_cs H0.out hb0 hb1
  have ok := h.ok
  have p3 := H0.out.qc.p3
  obtain ⟨⟨xb, xp, xq, xd, xy, xc, xn⟩, xpos⟩ := x
  unfold La.val at hl
  simp only at hl
  have HB : Hid (Below w.heap.size w ((w.alloc (.cells #[.int .i64 ep, .int .i64 sq] 30)).alloc (.cells #[.int .i64 xb, .int .i64 xp, .int .i64 xq, .string xd, .bool xy, .int .i64 xc, .int .i64 xn, .int .i64 xpos] 108))) := Lib.hid (HB0.out.alloc HB0.out.size _)
  have H1 := Lib.hid (h.below HB.out)
  have HF : Hid (After w B G V (K + 2002) ((w.alloc (.cells #[.int .i64 ep, .int .i64 sq] 30)).alloc (.cells #[.int .i64 xb, .int .i64 xp, .int .i64 xq, .string xd, .bool xy, .int .i64 xc, .int .i64 xn, .int .i64 xpos] 108))) := Lib.hid (After.same h HB.out (by omega))
  rcases hx with hx | ⟨hx, hz⟩
  · simp only at hx
    rw [hx] at hl
    simp only [Option.isSome_some] at hl
    by_cases hv : xp = ep ∧ xq = sq
    · obtain ⟨rfl, rfl⟩ := hv
      have he : cleanE V b xp xq = 0 := by unfold cleanE; rw [hx]; simp
      rw [he]
      cases hy : xy with
      | false =>
        subst hy
        have hvv := cleanVi_clean hx rfl
        rw [show cleanVi V b xp xq = V from hvv]
        clear h hx ok he hvv hK hb0 hb1 H1 H0 HB HB0
        go_enter Tryz.func26, Tryz.ntmps26
        go_wp2_with fail
        go_ret
        exact ⟨rfl, HF.out⟩
      | true =>
        subst hy
        have hr := ok.range hx
        have hm := ok.may b _ hx
        have hst : stepV V.e (.clean b xp xq) = updV V.e b (some ⟨xb, xp, xq, xd, false, xc, xn⟩) := by unfold stepV; simp only [hx, and_self, if_true]
        have HC : Hid (∀ w1, Cs w1 B G V K → Calls Tryz.prog 51 #[.pointer (some ⟨B.qB, 0, none⟩), .slice (some ⟨w1.heap.size, 0, none⟩) 1 1] (w1.alloc (.cells #[.iface 120 (.agg #[.int .i64 b, .int .i64 xp, .int .i64 xq]), .int .i64 V.k.ep, .int .i64 V.k.sq, .int .i64 V.k.t0, .int .i64 V.k.t1, .int .i64 V.k.t2, .int .i64 V.k.t3] 98)).drew fun e w' => e = .returned (.int .i64 0) ∧ ∃ r, Cs w' (B.row r) G (cleanVi V b xp xq) (K + 2002) ∧ (r = B.rb ∨ w1.heap.size ≤ r) ∧ But B.l w1 w') := Lib.hid (fun w1 h1 => by
          have hb := (Below.refl w1.heap.size w1).alloc (Nat.le_refl _) (.cells #[.iface 120 (.agg #[.int .i64 b, .int .i64 xp, .int .i64 xq]), .int .i64 V.k.ep, .int .i64 V.k.sq, .int .i64 V.k.t0, .int .i64 V.k.t1, .int .i64 V.k.t2, .int .i64 V.k.t3] 98)
          refine (bring_cs _ (h1.below hb.drew) (by omega) w1.heap.size 1 [(.clean b xp xq, V.k)] (by simp) ((rowD_one w1 (.clean b xp xq) V.k rfl).but ((But.refl [] _).drew) (by simp)) (fun z => by have := h1.lt _ z; omega) ⟨⟨hr, ⟨hm.p0, hm.p1⟩, ⟨hm.q0, hm.q1⟩⟩, ok.kk, by rw [hst, num_same hx]; exact ok.cn, trivial⟩).mono ?_
          rintro e w' ⟨rfl, r, g1, g2, g3⟩
          refine ⟨rfl, r, g1, ?_, ((But.refl B.l w1).below hb.drew (Nat.le_refl _)).trans g3⟩
          rcases g2 with g2 | g2
          · exact .inl g2
          · exact .inr (Nat.le_trans (by simp) g2))
        have HQ : Hid (∀ w', But B.l ((w.alloc (.cells #[.int .i64 xp, .int .i64 xq] 30)).alloc (.cells #[.int .i64 xb, .int .i64 xp, .int .i64 xq, .string xd, .bool true, .int .i64 xc, .int .i64 xn, .int .i64 xpos] 108)) w' → (∃ B' K' V', V'.k = V.k ∧ B'.qB = B.qB ∧ Cs w' B' G V' K') → w'.cell? ⟨w.heap.size, 0, none⟩ = some (.int .i64 xp) ∧ w'.cell? ⟨w.heap.size, 1, none⟩ = some (.int .i64 xq) ∧ w'.cell? ⟨B.qB, 4, none⟩ = some (.int .i64 V.k.ep) ∧ w'.cell? ⟨B.qB, 5, none⟩ = some (.int .i64 V.k.sq) ∧ w'.cell? ⟨B.qB, 6, none⟩ = some (.int .i64 V.k.t0) ∧ w'.cell? ⟨B.qB, 7, none⟩ = some (.int .i64 V.k.t1) ∧ w'.cell? ⟨B.qB, 8, none⟩ = some (.int .i64 V.k.t2) ∧ w'.cell? ⟨B.qB, 9, none⟩ = some (.int .i64 V.k.t3)) := Lib.hid (fun w' hb hc => by
          obtain ⟨B', K', V', e1, e2, hc⟩ := hc
          have g := hc.qc
          rw [e1, e2] at g
          have hl : w.heap.size ∉ B.l := fun z => by have := h.lt _ z; omega
          have e : ∀ o, w'.cell? ⟨w.heap.size, o, none⟩ = (w.alloc (.cells #[.int .i64 xp, .int .i64 xq] 30)).cell? ⟨w.heap.size, o, none⟩ := fun o => by
            rw [hb.cell (by simp; omega) hl, World.cell?_alloc_lt _ _ _ (by simp)]
          exact ⟨by rw [e, World.cell?_alloc_mark]; rfl, by rw [e, World.cell?_alloc_mark]; rfl, g.p4, g.p5, g.p6, g.p7, g.p8, g.p9⟩)
        have HE : Hid (∀ w' r, Cs w' (B.row r) G (cleanVi V b xp xq) (K + 2002) → (r = B.rb ∨ ((w.alloc (.cells #[.int .i64 xp, .int .i64 xq] 30)).alloc (.cells #[.int .i64 xb, .int .i64 xp, .int .i64 xq, .string xd, .bool true, .int .i64 xc, .int .i64 xn, .int .i64 xpos] 108)).heap.size ≤ r) → But B.l ((w.alloc (.cells #[.int .i64 xp, .int .i64 xq] 30)).alloc (.cells #[.int .i64 xb, .int .i64 xp, .int .i64 xq, .string xd, .bool true, .int .i64 xc, .int .i64 xn, .int .i64 xpos] 108)) w' → After w B G (cleanVi V b xp xq) (K + 2002) w') := Lib.hid (fun w' r h1 h2 h3 => After.from HB.out h1 h2 h3)
        clear h hx ok he hK hb0 hb1 H0 HB HB0 hr hm hst HF
        go_enter Tryz.func26, Tryz.ntmps26
        go_wp2_with fail
        generalize ((w.alloc (.cells #[.int .i64 xp, .int .i64 xq] 30)).alloc (.cells #[.int .i64 xb, .int .i64 xp, .int .i64 xq, .string xd, .bool true, .int .i64 xc, .int .i64 xn, .int .i64 xpos] 108)) = w1 at *
        have HS1 := Lib.hid (HQ.out w1.drew ((But.refl _ _).drew) ⟨B, K, V, rfl, rfl, H1.out.below (Below.refl _ _).drew⟩)
        have hbn := ((Below.refl w1.heap.size w1).alloc (Nat.le_refl _) (.cells #[.iface 120 (.agg #[.int .i64 b, .int .i64 xp, .int .i64 xq]), .int .i64 V.k.ep, .int .i64 V.k.sq, .int .i64 V.k.t0, .int .i64 V.k.t1, .int .i64 V.k.t2, .int .i64 V.k.t3] 98)).drew
        have HS2 := Lib.hid (HQ.out _ ((But.refl B.l _).below hbn (Nat.le_refl _)) ⟨B, K, V, rfl, rfl, H1.out.below hbn⟩)
        have HC1 := Lib.hid (HC.out w1 H1.out)
        clear hbn HC
        go_region_held3 (fun w' => w'.cell? ⟨w.heap.size, 0, none⟩ = some (.int .i64 xp) ∧ w'.cell? ⟨w.heap.size, 1, none⟩ = some (.int .i64 xq) ∧ w'.cell? ⟨B.qB, 4, none⟩ = some (.int .i64 V.k.ep) ∧ w'.cell? ⟨B.qB, 5, none⟩ = some (.int .i64 V.k.sq) ∧ w'.cell? ⟨B.qB, 6, none⟩ = some (.int .i64 V.k.t0) ∧ w'.cell? ⟨B.qB, 7, none⟩ = some (.int .i64 V.k.t1) ∧ w'.cell? ⟨B.qB, 8, none⟩ = some (.int .i64 V.k.t2) ∧ w'.cell? ⟨B.qB, 9, none⟩ = some (.int .i64 V.k.t3))
          (first
            | exact HS1.out
            | exact HS2.out
            | exact HS3.out)
          (first
            | (go_at_call 51; with_reducible refine HC1.out.mono ?_; rintro e w2 ⟨rfl, r2, g1, g2, g3⟩
               have HF := Lib.hid (HE.out _ _ g1 g2 g3)
               have HS3 := Lib.hid (HQ.out w2 g3 ⟨B.row r2, K + 2002, cleanVi V b xp xq, rfl, rfl, g1⟩)
               clear g1 g2 g3))
        go_wp2_with fail
        go_ret
        exact ⟨rfl, HF.out⟩
    · have he : cleanE V b ep sq = 10 := by unfold cleanE; rw [hx]; exact if_neg hv
      have hvv := cleanVi_other hx hv
      rw [he, hvv]
      by_cases h1 : xp = ep
      · subst h1
        have h2 : ¬ xq = sq := fun z => hv ⟨rfl, z⟩
        clear h hx ok he hvv hK hb0 hb1 H1 H0 HB HB0 hv
        go_enter Tryz.func26, Tryz.ntmps26
        go_wp2_with fail
        go_ret
        exact ⟨rfl, HF.out⟩
      · clear h hx ok he hvv hK hb0 hb1 H1 H0 HB HB0 hv
        go_enter Tryz.func26, Tryz.ntmps26
        go_wp2_with fail
        go_ret
        exact ⟨rfl, HF.out⟩
  · have he : cleanE V b ep sq = 10 := by unfold cleanE; rw [hx]
    rw [he, cleanVi_none hx]
    rw [hx] at hl
    simp only [Option.isSome_none] at hl
    clear h hx hz ok he hK hb0 hb1 H1 H0 HB HB0
    go_enter Tryz.func26, Tryz.ntmps26
    go_wp2_with fail
    go_ret
    exact ⟨rfl, HF.out⟩
end Q
end Go.Proofs.YtmcalgnpinolmaaGreat
