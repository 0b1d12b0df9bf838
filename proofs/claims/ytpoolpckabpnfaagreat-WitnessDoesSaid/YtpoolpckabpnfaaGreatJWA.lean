/-
  A witness as plain mathematics: what a cell's text says; what a message does.
  A witness in memory, with its device and its cell; its timer.
  What the cell's text says, as the program reads it.
  What is known is put.
  Masks of nodes as the program reckons them.
  A witness on a device with or without a fuse, behind crashes in which no sector tears: what may lie there.
-/
import Derived.Test.YtpoolpckabpnfaaGreatMlMath
import Derived.Test.YtpoolpckabpnfaaGreatCel8
import Derived.Test.YtpoolpckabpnfaaGreatMlDec
import Derived.BigQuiet
import Derived.BigRegion
import Derived.StillTailTactics
import Derived.Deep.RegionHeld3
import Derived.Deep.RegionLaw
namespace Go.Proofs.YtpoolpckabpnfaaGreat.Wt
open C (str)
open C.M (Rc enc dec May Fits fits)
open Ml (Mg may)
set_option linter.unusedVariables false
set_option linter.unusedSimpArgs false

def big : Int := 4611686018427387904
/-- what a cell's text says: the epoch, who holds it, who is in sync, the last change -/
structure Fx where
  ep : Int
  ho : Int
  ma : Int
  ch : Int
deriving DecidableEq
instance : Inhabited Fx := ⟨⟨0, -1, 3, 0⟩⟩
def Fx.zero : Fx := ⟨0, -1, 3, 0⟩
def Fx.Ok (x : Fx) : Prop := (0 ≤ x.ep ∧ x.ep ≤ big) ∧ (-1 ≤ x.ho ∧ x.ho ≤ 1) ∧ (1 ≤ x.ma ∧ x.ma ≤ 3) ∧ (0 ≤ x.ch ∧ x.ch ≤ big)
instance (x : Fx) : Decidable x.Ok := by unfold Fx.Ok; infer_instance
theorem Fx.zero_ok : Fx.zero.Ok := by decide
def fxN (l : List Int) : Fx := ⟨l.getD 0 0, l.getD 1 0, l.getD 2 0, l.getD 3 0⟩
/-- is it such a record? -/
def recOk (r : Rc) : Prop := r.kind = 40 ∧ r.nums.length = 4 ∧ r.texts.length = 0 ∧ (fxN r.nums).Ok
instance (r : Rc) : Decidable (recOk r) := by unfold recOk; infer_instance
def fxR : Option Rc → Fx
  | some r => if recOk r then fxN r.nums else Fx.zero
  | none => Fx.zero
/-- what a text says -/
def fx (s : ByteArray) : Fx := fxR (dec s.data.toList)
theorem fx_ok (s : ByteArray) : (fx s).Ok := by
  unfold fx fxR
  split
  · split
    · rename_i h; exact h.2.2.2
    · exact Fx.zero_ok
  · exact Fx.zero_ok
def fxRec (x : Fx) : Rc := ⟨40, [x.ep, x.ho, x.ma, x.ch], []⟩
def fxT (x : Fx) : ByteArray := str (enc (fxRec x))
theorem fits_in {x : Int} (h : -1 ≤ x ∧ x ≤ big) : fits x := by simp only [big] at h; simp only [fits]; omega
theorem fx_may {x : Fx} (h : x.Ok) : May (fxRec x) ∧ Fits (fxRec x) := by
  obtain ⟨h1, h2, h3, h4⟩ := h
  refine ⟨⟨by simp [fxRec], by simp [fxRec], by simp [fxRec], by simp [fxRec], by simp [fxRec]⟩, fun y hy => ?_⟩
  simp [fxRec] at hy
  simp only [big] at *
  rcases hy with rfl | rfl | rfl | rfl <;> apply fits_in <;> simp only [big] <;> omega
theorem str_list (l : List UInt8) : (str l).data.toList = l := by simp [str]
theorem str_size (l : List UInt8) : (str l).size = l.length := by simp [str, ByteArray.size]
theorem fx_fxT {x : Fx} (h : x.Ok) : fx (fxT x) = x := by
  obtain ⟨h1, h2⟩ := fx_may h
  unfold fx fxT
  rw [str_list, C.M.dec_enc h1 h2]
  have : recOk (fxRec x) := ⟨rfl, rfl, rfl, h⟩
  show (if recOk (fxRec x) then fxN (fxRec x).nums else Fx.zero) = x
  rw [if_pos this]
  rfl
theorem num_sum (l : List Int) : (l.map fun n => (C.M.num n).length).sum ≤ l.length * 10 := C.M.sum_le l _ 10 fun x _ => (C.M.num_len x).2
theorem fxT_small (x : Fx) : (fxT x).size ≤ 100 := by
  have h := num_sum (fxRec x).nums
  unfold fxT
  rw [str_size, C.M.enc_len]
  simp [fxRec] at h ⊢
  omega
theorem dec_nil : dec ([] : List UInt8) = none := by rfl
theorem fx_empty : fx ⟨#[]⟩ = Fx.zero := by unfold fx; rw [show (⟨#[]⟩ : ByteArray).data.toList = [] from rfl, dec_nil]; rfl

/-- is a node in a mask? -/
def inM (ma fr : Int) : Bool := if fr = 0 then decide (ma % 2 = 1) else decide (fr = 1) && decide (ma / 2 = 1)
/-- a mask without a node that has lost all -/
def lostM (ma fr : Int) : Int := if ma = 3 then 2 - fr else ma
def isNode (fr : Int) : Bool := decide (0 ≤ fr) && decide (fr ≤ 1)
/-- is that asked for longer? -/
def longer (x : Fx) (fr : Int) (m : Mg) : Bool := decide (x.ho = fr) && (decide (m.seq = 0) && decide (m.epoch = x.ep))
/-- what an ask comes to: an error, or what is put -/
def askP (x : Fx) (L fr : Int) (m : Mg) : Int × Option Fx :=
  if inM x.ma fr = false then (20, none) else if longer x fr m = true then (0, none) else if x.ho ≠ fr ∧ 0 < L then (25, none) else if x.ep = big then (22, none) else (0, some ⟨x.ep + 1, fr, x.ma, 0⟩)
def chaP (x : Fx) (fr : Int) (m : Mg) : Int × Option Fx :=
  if x.ho ≠ fr ∨ m.epoch ≠ x.ep then (20, none) else if (m.seq < 1 ∨ 3 < m.seq) ∨ inM m.seq fr = false then (1, none) else if m.n ≤ x.ch then (0, none) else (0, some ⟨x.ep, x.ho, m.seq, m.n⟩)
def losP (x : Fx) (fr : Int) : Int × Option Fx := (0, some ⟨x.ep, -1, lostM x.ma fr, x.ch⟩)
def takP (x : Fx) (L fr : Int) (m : Mg) : Int × Option Fx := if m.kind = 1 then askP x L fr m else if m.kind = 3 then chaP x fr m else losP x fr
def kindOk (k : Int) : Bool := decide (k = 1) || (decide (k = 3) || decide (k = 4))
/-- is a message looked at? -/
def can (fr : Int) (m : Mg) : Bool := kindOk m.kind && (isNode fr && may m)

/-- what is put is what may be -/
theorem lostM_in {ma fr : Int} (hf : 0 ≤ fr ∧ fr ≤ 1) (h : 1 ≤ ma ∧ ma ≤ 3) : 1 ≤ lostM ma fr ∧ lostM ma fr ≤ 3 := by unfold lostM; split <;> omega
theorem askP_ok {x : Fx} (hx : x.Ok) {L fr : Int} (hf : 0 ≤ fr ∧ fr ≤ 1) {m : Mg} {y : Fx} (h : (askP x L fr m).2 = some y) : y.Ok ∧ y = ⟨x.ep + 1, fr, x.ma, 0⟩ ∧ inM x.ma fr = true := by
  obtain ⟨h1, h2, h3, h4⟩ := hx
  unfold askP at h
  repeat' split at h
  all_goals first
    | (simp at h; done)
    | (simp at h
       subst h
       rename_i a1 a2 a3 a4
       refine ⟨⟨?_, ?_, h3, ?_⟩, rfl, by simpa using a1⟩ <;> simp only [big] at * <;> omega)
theorem chaP_ok {x : Fx} (hx : x.Ok) {fr : Int} {m : Mg} (hm : may m = true) {y : Fx} (h : (chaP x fr m).2 = some y) : y.Ok ∧ y = ⟨x.ep, x.ho, m.seq, m.n⟩ ∧ x.ho = fr := by
  obtain ⟨h1, h2, h3, h4⟩ := hx
  obtain ⟨_, m1, m2, m3, _⟩ := (Ml.may_iff m).1 hm
  have hb : Ml.big = big := rfl
  rw [hb] at m1 m2 m3
  unfold chaP at h
  repeat' split at h
  all_goals first
    | (simp at h; done)
    | (simp at h
       subst h
       rename_i a1 a2 a3
       refine ⟨⟨h1, h2, ?_, ?_⟩, rfl, ?_⟩
       · simp only; omega
       · simp only; omega
       · omega)
theorem losP_ok {x : Fx} (hx : x.Ok) {fr : Int} (hf : 0 ≤ fr ∧ fr ≤ 1) {y : Fx} (h : (losP x fr).2 = some y) : y.Ok ∧ y = ⟨x.ep, -1, lostM x.ma fr, x.ch⟩ := by
  obtain ⟨h1, h2, h3, h4⟩ := hx
  unfold losP at h
  simp at h
  subst h
  exact ⟨⟨h1, by simp only; omega, lostM_in hf h3, h4⟩, rfl⟩
theorem isNode_iff (fr : Int) : isNode fr = true ↔ 0 ≤ fr ∧ fr ≤ 1 := by simp [isNode]
theorem can_iff (fr : Int) (m : Mg) : can fr m = true ↔ (m.kind = 1 ∨ m.kind = 3 ∨ m.kind = 4) ∧ (0 ≤ fr ∧ fr ≤ 1) ∧ may m = true := by simp [can, kindOk, isNode]
theorem takP_ok {x : Fx} (hx : x.Ok) {L fr : Int} {m : Mg} (hc : can fr m = true) {y : Fx} (h : (takP x L fr m).2 = some y) : y.Ok := by
  obtain ⟨hk, hf, hm⟩ := (can_iff fr m).1 hc
  unfold takP at h
  split at h
  · exact (askP_ok hx hf h).1
  · split at h
    · exact (chaP_ok hx hm h).1
    · exact (losP_ok hx hf h).1

/-- what comes of it -/
def doE (n a b : Nat) (d : M.Dv) (c : M.Cl) (p : Int × Option Fx) : Int := match p.2 with
  | some y => M.puE n d a b c (fxT y)
  | none => p.1
def doD (n a b : Nat) (d : M.Dv) (c : M.Cl) (p : Int × Option Fx) : M.Dv := match p.2 with
  | some y => M.puD n d a b c (fxT y)
  | none => d
def doC (n a b : Nat) (d : M.Dv) (c : M.Cl) (p : Int × Option Fx) : M.Cl := match p.2 with
  | some y => M.puC n d a b c (fxT y)
  | none => c
def takE (n a b : Nat) (d : M.Dv) (c : M.Cl) (L fr : Int) (m : Mg) : Int := doE n a b d c (takP (fx c.text) L fr m)
def takD (n a b : Nat) (d : M.Dv) (c : M.Cl) (L fr : Int) (m : Mg) : M.Dv := if can fr m = true then doD n a b d c (takP (fx c.text) L fr m) else d
def takC (n a b : Nat) (d : M.Dv) (c : M.Cl) (L fr : Int) (m : Mg) : M.Cl := if can fr m = true then doC n a b d c (takP (fx c.text) L fr m) else c
def takL (n a b : Nat) (d : M.Dv) (c : M.Cl) (L W fr : Int) (m : Mg) : Int := if can fr m = true ∧ m.kind = 1 ∧ takE n a b d c L fr m = 0 then W else L
def takI (n a b : Nat) (d : M.Dv) (c : M.Cl) (L fr : Int) (m : Mg) : Bool := can fr m && !decide (takE n a b d c L fr m = 30)
def ansK (k : Int) : Int := if k = 1 then 2 else k
def ansA (x : Fx) (m : Mg) (e : Int) : Mg := ⟨ansK m.kind, x.ep, x.ma, m.n, -1, x.ho, e, 0, 0, 0, 0, ⟨#[]⟩, ⟨#[]⟩⟩
def takA (n a b : Nat) (d : M.Dv) (c : M.Cl) (L fr : Int) (m : Mg) : Mg :=
  if takI n a b d c L fr m = true then ansA (fx (takC n a b d c L fr m).text) m (takE n a b d c L fr m) else Ml.nil

/-- what a put makes of the cell -/
theorem do_ways {n a b : Nat} {d : M.Dv} {c : M.Cl} (hg : 0 ≤ c.gen ∧ c.gen ≤ 4611686018427387904) (ho : c.o ≤ 1) (ht : c.text.size ≤ 100) (p : Int × Option Fx) :
    (doC n a b d c p).o ≤ 1 ∧ (0 ≤ (doC n a b d c p).gen ∧ (doC n a b d c p).gen ≤ 4611686018427387904) ∧ (doC n a b d c p).text.size ≤ 100 := by
  obtain ⟨e, q⟩ := p
  cases q with
  | none => exact ⟨ho, hg, ht⟩
  | some y =>
    simp only [doC]
    rcases M.pu_ways n d a b c (fxT y) hg.2 with ⟨_, h, h2⟩ | ⟨_, h⟩ <;> rw [h]
    · exact ⟨by simp only; omega, by simp only; omega, fxT_small y⟩
    · exact ⟨ho, hg, ht⟩
end Go.Proofs.YtpoolpckabpnfaaGreat.Wt
namespace Go.Proofs.YtpoolpckabpnfaaGreat.Wt
open Go.RowKit
open Ml (Mg may)
set_option linter.unusedVariables false
set_option linter.unusedSimpArgs false
set_option maxRecDepth 20000

variable {dB sB mB n : Nat} {d : M.Dv}

/-- a block, whole -/
def Bo (w : World) (g : Nat) (cs : Array Value) (t : TypeId) : Prop := w.heap[g]? = some (.cells cs t (0, 0))
theorem Bo.lt {w : World} {g : Nat} {cs : Array Value} {t : TypeId} (h : Bo w g cs t) : g < w.heap.size := (Array.getElem?_eq_some_iff.1 h).1
theorem Bo.new (w : World) (cs : Array Value) (t : TypeId) : Bo (w.alloc (.cells cs t)) w.heap.size cs t := heap_alloc_new w _
theorem Bo.below {w w' : World} {g : Nat} {cs : Array Value} {t : TypeId} (h : Bo w g cs t) {B : Nat} (hb : Below B w w') (hB : g < B) : Bo w' g cs t := by
  unfold Bo; rw [hb.block _ hB]; exact h
theorem Bo.but {w w' : World} {g : Nat} {cs : Array Value} {t : TypeId} (h : Bo w g cs t) {l : List Nat} (hb : But l w w') (hn : g ∉ l) : Bo w' g cs t := by
  unfold Bo; rw [hb.block _ h.lt hn]; exact h
theorem Bo.of_block {w w' : World} {g : Nat} {cs : Array Value} {t : TypeId} (h : Bo w g cs t) (hb : w'.heap[g]? = w.heap[g]?) : Bo w' g cs t := by
  unfold Bo; rw [hb]; exact h
theorem Bo.other {w : World} {g : Nat} {cs : Array Value} {t : TypeId} (h : Bo w g cs t) {p : Addr} (hp : p.block ≠ g) (v : Value) : Bo (w.setCell p v) g cs t :=
  h.of_block (by simp [World.setCell, Array.getElem?_modify, hp])
theorem Bo.cell {w : World} {g : Nat} {cs : Array Value} {t : TypeId} (h : Bo w g cs t) (o : Nat) : w.cell? ⟨g, o, none⟩ = cs[o]? := by unfold Bo at h; simp [World.cell?, h]
theorem Bo.fz {w : World} {g : Nat} {cs : Array Value} {t : TypeId} (h : Bo w g cs t) (o : Nat) : w.frozen? ⟨g, o, none⟩ = false := by unfold Bo at h; simp [World.frozen?, h]
theorem Bo.set {w : World} {g : Nat} {cs : Array Value} {t : TypeId} (h : Bo w g cs t) (o : Nat) (v : Value) : Bo (w.setCell ⟨g, o, none⟩ v) g (cs.setIfInBounds o v) t := by
  unfold Bo at h ⊢
  simp [World.setCell, Array.getElem?_modify, h]

/-! ## a timer, wherever it lies -/
def left (n : Int) : Int := max n 0
theorem on_at {w : World} {g o : Nat} {x : Int} (h : w.cell? ⟨g, o, none⟩ = some (.int .i64 x)) : Calls Tryz.prog 62 #[.pointer (some ⟨g, o, none⟩)] w fun e w' => e = .returned (.bool (decide (0 < x))) ∧ w = w' := by
  go_enter Tryz.func62, Tryz.ntmps62
  go_wp2
  go_ret
  exact ⟨rfl, rfl⟩
theorem left_at {w : World} {g o : Nat} {x : Int} (h : w.cell? ⟨g, o, none⟩ = some (.int .i64 x)) : Calls Tryz.prog 49 #[.pointer (some ⟨g, o, none⟩)] w fun e w' => e = .returned (.int .i64 x) ∧ w = w' := by
  go_enter Tryz.func49, Tryz.ntmps49
  go_wp2
  go_ret
  exact ⟨rfl, rfl⟩
theorem set_at {w : World} {g o : Nat} {x : Int} (h : w.cell? ⟨g, o, none⟩ = some (.int .i64 x)) (hf : w.frozen? ⟨g, o, none⟩ = false) (m : Int) (hm : 0 ≤ m) : Calls Tryz.prog 29 #[.pointer (some ⟨g, o, none⟩), .int .i64 m] w fun e w' => e = .returned (.tuple #[]) ∧ w' = w.setCell ⟨g, o, none⟩ (.int .i64 m) := by
  have h1 : ¬ m < 0 := by omega
  have HM := Lib.hid hm
  clear hm
  go_enter Tryz.func29, Tryz.ntmps29
  go_wp2
  go_end0
  exact ⟨rfl, by rw [show max m 0 = m by have := HM.out; omega]⟩
theorem tick_at {w : World} {g o : Nat} {x : Int} (h : w.cell? ⟨g, o, none⟩ = some (.int .i64 x)) (hf : w.frozen? ⟨g, o, none⟩ = false) (hx : 0 ≤ x) (hx2 : x ≤ 9223372036854775807) : Calls Tryz.prog 41 #[.pointer (some ⟨g, o, none⟩)] w fun e w' => e = .returned (.tuple #[]) ∧ (w' = w ∧ left (x - 1) = x ∨ w' = w.setCell ⟨g, o, none⟩ (.int .i64 (left (x - 1)))) := by
  have HO := Lib.hid (on_at h)
  by_cases h0 : 0 < x
  · have hl : left (x - 1) = x - 1 := by unfold left; omega
    rw [hl]
    rw [decide_eq_true h0] at HO
    clear hl
    go_enter Tryz.func41, Tryz.ntmps41
    go_wp2_with (go_at_call 62; with_reducible refine HO.out.mono ?_; rintro e w1 ⟨rfl, rfl⟩)
    go_end0
    exact ⟨rfl, .inr rfl⟩
  · have hl : left (x - 1) = x := by unfold left; omega
    have HL := Lib.hid hl
    rw [decide_eq_false h0] at HO
    clear hl
    go_enter Tryz.func41, Tryz.ntmps41
    go_wp2_with (go_at_call 62; with_reducible refine HO.out.mono ?_; rintro e w1 ⟨rfl, rfl⟩)
    go_end0
    exact ⟨rfl, .inl ⟨rfl, HL.out⟩⟩

/-! ## a witness -/
def svC (cB : Nat) (L W : Int) : Array Value := #[.pointer (some ⟨cB, 0, none⟩), .int .i64 L, .int .i64 W]
/-- the blocks that a message may change -/
def ours (dB sB mB cB tB : Nat) : List Nat := [dB, sB, mB, cB, tB]
theorem mem_ours {dB sB mB cB tB x : Nat} : x ∈ ours dB sB mB cB tB ↔ x = dB ∨ x = sB ∨ x = mB ∨ x = cB ∨ x = tB := by simp [ours]

/-- a witness, its device and its cell, in memory -/
structure WS (w : World) (dB sB mB n : Nat) (d : M.Dv) (tB cB a b : Nat) (c : M.Cl) (L W : Int) : Prop where
  dev : DevAt w dB sB mB n d
  sv : Bo w tB (svC cB L W) 73
  cel : CellAt w cB dB a b c
  kd : cB ≠ dB ∧ cB ≠ sB ∧ cB ≠ mB
  td : tB ≠ dB ∧ tB ≠ sB ∧ tB ≠ mB ∧ tB ≠ cB
  o1 : c.o ≤ 1
  gn : 0 ≤ c.gen ∧ c.gen ≤ 4611686018427387904
  tx : c.text.size ≤ 100
  ab : a ≠ b ∧ a < n ∧ b < n
  wt : 1 ≤ W ∧ W ≤ 1099511627776
  lf : 0 ≤ L ∧ L ≤ W

variable {w w' : World} {tB cB a b : Nat} {c : M.Cl} {L W : Int}
theorem WS.but (h : WS w dB sB mB n d tB cB a b c L W) {l : List Nat} (hb : But l w w') (hn : ∀ x ∈ l, x ∉ ours dB sB mB cB tB) : WS w' dB sB mB n d tB cB a b c L W where
  dev := h.dev.but hb (fun hx => hn _ hx (by simp [ours])) (fun hx => hn _ hx (by simp [ours])) (fun hx => hn _ hx (by simp [ours]))
  sv := h.sv.but hb (fun hx => hn _ hx (by simp [ours]))
  cel := h.cel.but hb (fun hx => hn _ hx (by simp [ours]))
  kd := h.kd
  td := h.td
  o1 := h.o1
  gn := h.gn
  tx := h.tx
  ab := h.ab
  wt := h.wt
  lf := h.lf
theorem WS.below (h : WS w dB sB mB n d tB cB a b c L W) (hb : Below w.heap.size w w') : WS w' dB sB mB n d tB cB a b c L W := h.but (But.of_below hb) (by simp)
/-- all of it lies within what is there -/
theorem WS.ours_lt (h : WS w dB sB mB n d tB cB a b c L W) : ∀ x ∈ ours dB sB mB cB tB, x < w.heap.size := by
  intro x hx
  rcases mem_ours.1 hx with rfl | rfl | rfl | rfl | rfl
  · exact h.dev.ltD
  · exact h.dev.lt
  · exact h.dev.pend.lt
  · exact h.cel.lt
  · exact h.sv.lt
theorem WS.not_mem (h : WS w dB sB mB n d tB cB a b c L W) {g : Nat} (hg : w.heap.size ≤ g) : g ∉ ours dB sB mB cB tB := fun hx => by have := h.ours_lt _ hx; omega
theorem WS.q0 (h : WS w dB sB mB n d tB cB a b c L W) : w.cell? ⟨tB, 0, none⟩ = some (.pointer (some ⟨cB, 0, none⟩)) := h.sv.cell 0
theorem WS.q1 (h : WS w dB sB mB n d tB cB a b c L W) : w.cell? ⟨tB, 1, none⟩ = some (.int .i64 L) := h.sv.cell 1
theorem WS.q2 (h : WS w dB sB mB n d tB cB a b c L W) : w.cell? ⟨tB, 2, none⟩ = some (.int .i64 W) := h.sv.cell 2
theorem WS.fz (h : WS w dB sB mB n d tB cB a b c L W) (o : Nat) : w.frozen? ⟨tB, o, none⟩ = false := h.sv.fz o
/-- the timer is set -/
theorem WS.set (h : WS w dB sB mB n d tB cB a b c L W) {L' : Int} (hl : 0 ≤ L' ∧ L' ≤ W) : WS (w.setCell ⟨tB, 1, none⟩ (.int .i64 L')) dB sB mB n d tB cB a b c L' W where
  dev := h.dev.but ((But.refl [tB] w).set _ (.inl (by simp))) (by have := h.td; simp; omega) (by have := h.td; simp; omega) (by have := h.td; simp; omega)
  sv := h.sv.set 1 _
  cel := h.cel.but ((But.refl [tB] w).set _ (.inl (by simp))) (by have := h.td; simp; omega)
  kd := h.kd
  td := h.td
  o1 := h.o1
  gn := h.gn
  tx := h.tx
  ab := h.ab
  wt := h.wt
  lf := hl
theorem WS.set_but (h : WS w dB sB mB n d tB cB a b c L W) (v : Value) : But (ours dB sB mB cB tB) w (w.setCell ⟨tB, 1, none⟩ v) := (But.refl _ w).set _ (.inl (by simp [ours]))

theorem on_any (h : WS w dB sB mB n d tB cB a b c L W) : Calls Tryz.prog 62 #[.pointer (some ⟨tB, 1, none⟩)] w fun e w' => e = .returned (.bool (decide (0 < L))) ∧ w = w' := on_at h.q1
/-- Left -/
theorem left_any (h : WS w dB sB mB n d tB cB a b c L W) : Calls Tryz.prog 24 #[.pointer (some ⟨tB, 0, none⟩)] w fun e w' => e = .returned (.int .i64 L) ∧ w = w' := by
  have HO := Lib.hid (left_at h.q1)
  clear h
  go_enter Tryz.func24, Tryz.ntmps24
  go_wp2_with (go_at_call 49; with_reducible refine HO.out.mono ?_; rintro e w1 ⟨rfl, rfl⟩)
  go_ret
  exact ⟨rfl, rfl⟩
/-- Tick -/
theorem tick_any (h : WS w dB sB mB n d tB cB a b c L W) : Calls Tryz.prog 12 #[.pointer (some ⟨tB, 0, none⟩)] w fun e w' => e = .returned (.tuple #[]) ∧ WS w' dB sB mB n d tB cB a b c (left (L - 1)) W ∧ But (ours dB sB mB cB tB) w w' := by
  have hl := h.lf
  have hw := h.wt
  have HO := Lib.hid (tick_at h.q1 (h.fz 1) hl.1 (by omega))
  have H := Lib.hid h
  have HL : Hid (0 ≤ left (L - 1) ∧ left (L - 1) ≤ W) := Lib.hid (by unfold left; omega)
  clear h hl hw
  go_enter Tryz.func12, Tryz.ntmps12
  go_wp2_with (go_at_call 41; with_reducible refine HO.out.mono ?_; rintro e w1 ⟨rfl, hq⟩)
  go_end0
  refine ⟨rfl, ?_⟩
  rcases hq with ⟨rfl, h2⟩ | rfl
  · rw [h2]; exact ⟨H.out, But.refl _ _⟩
  · exact ⟨H.out.set HL.out, H.out.set_but _⟩

/-- a put to its cell -/
theorem put_ws (h : WS w dB sB mB n d tB cB a b c L W) (y : Fx) :
    Calls Tryz.prog 90 #[.pointer (some ⟨cB, 0, none⟩), .string (fxT y)] w fun e w' => e = .returned (.int .i64 (M.puE n d a b c (fxT y))) ∧ WS w' dB sB mB n (M.puD n d a b c (fxT y)) tB cB a b (M.puC n d a b c (fxT y)) L W ∧ But (ours dB sB mB cB tB) w w' := by
  have hn := h.dev.n512
  have hab := h.ab
  refine (put_all w h.dev cB a b c h.cel h.kd h.o1 h.gn ⟨by omega, by omega⟩ (fxT y) (fxT_small y)).mono ?_
  rintro e w' ⟨rfl, hd, hc, hb⟩
  have hb' : But (ours dB sB mB cB tB) w w' := hb.mono fun x hx => by
    simp only [List.mem_cons, List.not_mem_nil, or_false] at hx
    rcases hx with rfl | rfl | rfl | rfl <;> simp [ours]
  obtain ⟨g1, g2, g3⟩ := do_ways (n := n) (a := a) (b := b) (d := d) h.gn h.o1 h.tx (0, some y)
  exact ⟨rfl, ⟨hd, h.sv.but hb (by have := h.td; simp; omega), hc, h.kd, h.td, g1, g2, g3, h.ab, h.wt, h.lf⟩, hb'⟩
end Go.Proofs.YtpoolpckabpnfaaGreat.Wt
namespace Go.Proofs.YtpoolpckabpnfaaGreat.Wt
open Go.RowKit
open Ml (Mg may)
open C (RecAt RecOwn zeroRec)
set_option linter.unusedVariables false
set_option linter.unusedSimpArgs false
set_option maxRecDepth 20000

variable {dB sB mB n : Nat} {d : M.Dv}

theorem within_any (x l m : Int) (w : World) : Calls Tryz.prog 27 #[.int .i64 x, .int .i64 l, .int .i64 m] w fun e w' => e = .returned (.bool (decide (l ≤ x) && decide (x ≤ m))) ∧ w = w' := by
  by_cases h1 : l ≤ x
  · go_enter Tryz.func27, Tryz.ntmps27
    go_wp2
    go_ret
    exact ⟨by simp [h1], rfl⟩
  · go_enter Tryz.func27, Tryz.ntmps27
    go_wp2
    go_ret
    exact ⟨by rw [decide_eq_false (show ¬ l ≤ x by omega)]; rfl, rfl⟩
theorem node_any (x : Int) (w : World) : Calls Tryz.prog 33 #[.int .i64 x] w fun e w' => e = .returned (.bool (isNode x)) ∧ w = w' := by
  by_cases h1 : 0 ≤ x
  · go_enter Tryz.func33, Tryz.ntmps33
    go_wp2
    go_ret
    exact ⟨by simp [isNode, h1], rfl⟩
  · go_enter Tryz.func33, Tryz.ntmps33
    go_wp2
    go_ret
    exact ⟨by unfold isNode; rw [decide_eq_false (show ¬ 0 ≤ x by omega)]; rfl, rfl⟩

theorem may_no4 (w : World) {a : Option Addr} {nN c : Nat} (hn : nN ≠ 4) : Calls Tryz.prog 67 #[.slice a nN c] w fun e w' => e = .returned (.bool false) ∧ w = w' := by
  have h4 : ((nN : Int) == 4) = false := by rw [beq_eq_false_iff_ne]; omega
  have h4' : ¬ (nN : Int) = 4 := by omega
  go_enter Tryz.func67, Tryz.ntmps67
  go_wp2
  go_ret
  exact ⟨rfl, rfl⟩
theorem may_4 (w : World) {b c : Nat} {x0 x1 x2 x3 : Int} (hc : 4 ≤ c) (h0 : w.cell? ⟨b, 0, none⟩ = some (.int .i64 x0)) (h1 : w.cell? ⟨b, 1, none⟩ = some (.int .i64 x1)) (h2 : w.cell? ⟨b, 2, none⟩ = some (.int .i64 x2)) (h3 : w.cell? ⟨b, 3, none⟩ = some (.int .i64 x3)) :
    Calls Tryz.prog 67 #[.slice (some ⟨b, 0, none⟩) 4 c] w fun e w' => e = .returned (.bool (decide (Fx.mk x0 x1 x2 x3).Ok)) ∧ w = w' := by
  have H0 := within_any x0 0 4611686018427387904 w
  have H1 := within_any x1 (-1) 1 w
  have H2 := within_any x2 1 3 w
  have H3 := within_any x3 0 4611686018427387904 w
  have HE : decide (Fx.mk x0 x1 x2 x3).Ok = ((decide (0 ≤ x0) && decide (x0 ≤ 4611686018427387904)) && ((decide (-1 ≤ x1) && decide (x1 ≤ 1)) && ((decide (1 ≤ x2) && decide (x2 ≤ 3)) && (decide (0 ≤ x3) && decide (x3 ≤ 4611686018427387904))))) := by
    rw [Bool.eq_iff_iff]
    simp [Fx.Ok, big, and_assoc]
  rw [HE]
  clear HE
  generalize (decide (0 ≤ x0) && decide (x0 ≤ 4611686018427387904)) = b0 at *
  generalize (decide (-1 ≤ x1) && decide (x1 ≤ 1)) = b1 at *
  generalize (decide (1 ≤ x2) && decide (x2 ≤ 3)) = b2 at *
  generalize (decide (0 ≤ x3) && decide (x3 ≤ 4611686018427387904)) = b3 at *
  have K0 := Lib.hid H0
  have K1 := Lib.hid H1
  have K2 := Lib.hid H2
  have K3 := Lib.hid H3
  clear H0 H1 H2 H3
  have hb : b0 = false ∨ (b0 = true ∧ b1 = false) ∨ (b0 = true ∧ b1 = true ∧ b2 = false) ∨ (b0 = true ∧ b1 = true ∧ b2 = true ∧ b3 = false) ∨ (b0 = true ∧ b1 = true ∧ b2 = true ∧ b3 = true) := by
    cases b0 <;> cases b1 <;> cases b2 <;> cases b3 <;> simp
  rcases hb with rfl | ⟨rfl, rfl⟩ | ⟨rfl, rfl, rfl⟩ | ⟨rfl, rfl, rfl, rfl⟩ | ⟨rfl, rfl, rfl, rfl⟩
  all_goals
    go_enter Tryz.func67, Tryz.ntmps67
    go_wp2_with (first
      | (go_at_call 27; with_reducible refine K0.out.mono ?_; rintro e w' ⟨rfl, rfl⟩)
      | (go_at_call 27; with_reducible refine K1.out.mono ?_; rintro e w' ⟨rfl, rfl⟩)
      | (go_at_call 27; with_reducible refine K2.out.mono ?_; rintro e w' ⟨rfl, rfl⟩)
      | (go_at_call 27; with_reducible refine K3.out.mono ?_; rintro e w' ⟨rfl, rfl⟩))
    go_ret
    exact ⟨rfl, rfl⟩

/-! ## the state -/
def fxV (x : Fx) : Value := .agg #[.int .i64 x.ep, .int .i64 x.ho, .int .i64 x.ma, .int .i64 x.ch]
def fxC (x : Fx) : Array Value := #[.int .i64 x.ep, .int .i64 x.ho, .int .i64 x.ma, .int .i64 x.ch]
theorem bx_bo {w : World} {cs : Array Value} {t : TypeId} {w' : World} (h : C.Bx w (.cells cs t) w') : Bo w' w.heap.size cs t := by
  have h2 : Below (w.heap.size + 1) (w.alloc (.cells cs t)) w' := h
  exact (Bo.new w cs t).below h2 (by omega)
theorem below4 {B g : Nat} {w0 w : World} (h : Below B w0 w) (hg : B ≤ g) (v0 v1 v2 v3 : Value) : Below B w0 ((((w.setCell ⟨g, 0, none⟩ v0).setCell ⟨g, 1, none⟩ v1).setCell ⟨g, 2, none⟩ v2).setCell ⟨g, 3, none⟩ v3) :=
  (((h.setCell hg _).setCell hg _).setCell hg _).setCell hg _
/-- the box of the result, behind a decode -/
theorem sta_box {w : World} {s : ByteArray} {w1 : World} (hb : Below (Lib.bytesWorld (w.alloc (.cells #[.int .i64 0, .int .i64 0, .int .i64 0, .int .i64 0] 105)) 5 s).heap.size (Lib.bytesWorld (w.alloc (.cells #[.int .i64 0, .int .i64 0, .int .i64 0, .int .i64 0] 105)) 5 s) w1) (rec : Array Value) :
    Bo (w1.alloc (.cells rec 80)) w.heap.size #[.int .i64 0, .int .i64 0, .int .i64 0, .int .i64 0] 105 ∧ Below w.heap.size w (w1.alloc (.cells rec 80)) := by
  have h1 := Ml.bytes_below (w.alloc (.cells #[.int .i64 0, .int .i64 0, .int .i64 0, .int .i64 0] 105)) s
  have h2 := h1.trans (hb.mono h1.size)
  have h3 := h2.alloc h2.size (.cells rec 80)
  have hs : (w.alloc (.cells #[.int .i64 0, .int .i64 0, .int .i64 0, .int .i64 0] 105)).heap.size = w.heap.size + 1 := by simp
  exact ⟨(Bo.new w _ _).below h3 (by rw [hs]; omega), ((Below.refl w.heap.size w).alloc (Nat.le_refl _) _).trans (h3.mono (by rw [hs]; omega))⟩

theorem fx_none {s : ByteArray} (hd : C.M.dec s.data.toList = none) : fx s = Fx.zero := by unfold fx; rw [hd]; rfl
theorem fx_bad {s : ByteArray} {r : C.M.Rc} (hd : C.M.dec s.data.toList = some r) (h : ¬ recOk r) : fx s = Fx.zero := by unfold fx; rw [hd]; simp only [fxR]; rw [if_neg h]
theorem fx_good {s : ByteArray} {r : C.M.Rc} (hd : C.M.dec s.data.toList = some r) (h : recOk r) : fx s = fxN r.nums := by unfold fx; rw [hd]; simp only [fxR]; rw [if_pos h]

/-- a decode of the cell's text: what the record's kind and lengths are -/
theorem dec_kind (w : World) (s : ByteArray) (hs : s.size ≤ 65536) (kd : Int) (hk : (C.M.dec s.data.toList = none ∧ kd = 0) ∨ ∃ r, C.M.dec s.data.toList = some r ∧ kd = r.kind) :
    Calls Tryz.prog 65 #[.slice (some ⟨w.heap.size, 0, none⟩) s.size (grownCap w s.size 0 5)] (Lib.bytesWorld w 5 s) fun e w' => ∃ aN nN cN aT nT cT e0, e = .returned (.tuple #[.agg #[.int .i64 kd, .slice aN nN cN, .slice aT nT cT], .int .i64 e0]) ∧ Below (Lib.bytesWorld w 5 s).heap.size (Lib.bytesWorld w 5 s) w' := by
  rcases hk with ⟨hd, rfl⟩ | ⟨r, hd, rfl⟩
  · refine (C.decode_no (Lib.bytesWorld w 5 s) _ _ _ _ (Ml.bytes_row w s hs) hd).mono ?_
    rintro e w' ⟨rfl, hb⟩
    exact ⟨_, _, _, _, _, _, _, rfl, hb⟩
  · refine (C.decode_ok (Lib.bytesWorld w 5 s) _ _ _ _ r (Ml.bytes_row w s hs) hd).mono ?_
    rintro e w' ⟨aN, nN, cN, aT, nT, cT, rfl, _, hb⟩
    exact ⟨_, _, _, _, _, _, _, rfl, hb⟩

set_option maxHeartbeats 2000000 in
theorem state_kind (w : World) {tB cB a b : Nat} {c : M.Cl} {L W : Int} (h : WS w dB sB mB n d tB cB a b c L W) (kd : Int) (hk : (C.M.dec c.text.data.toList = none ∧ kd = 0) ∨ ∃ r, C.M.dec c.text.data.toList = some r ∧ kd = r.kind) (h40 : kd ≠ 40) :
    Calls Tryz.prog 48 #[.pointer (some ⟨tB, 0, none⟩)] w fun e w' => e = .returned (fxV Fx.zero) ∧ Below w.heap.size w w' := by
  have h1 := h.below ((Below.refl w.heap.size w).alloc (Nat.le_refl _) (.cells #[.int .i64 0, .int .i64 0, .int .i64 0, .int .i64 0] 105))
  have q0 := h1.q0
  have HG := Lib.hid (get_any _ h1.cel)
  have htx := h.tx
  have hD := dec_kind (w.alloc (.cells #[.int .i64 0, .int .i64 0, .int .i64 0, .int .i64 0] 105)) c.text (by omega) kd hk
  rw [show (w.alloc (.cells #[.int .i64 0, .int .i64 0, .int .i64 0, .int .i64 0] 105)).heap.size = w.heap.size + 1 by simp] at hD
  have kc := Ml.conv_str (w.alloc (.cells #[.int .i64 0, .int .i64 0, .int .i64 0, .int .i64 0] 105)) c.text
  have HD := Lib.hid hD
  have hne : ((kd : Int) != 40) = true := by rw [bne_iff_ne]; exact h40
  clear hD h h1 htx hk h40
  generalize c.text = s at *
  go_enter Tryz.func48, Tryz.ntmps48
  go_wp2_with (first
    | (go_at_call 66; with_reducible refine HG.out.mono ?_; rintro e w1 ⟨rfl, rfl⟩)
    | (go_at_call 65; with_reducible refine HD.out.mono ?_; rintro e1 w1 ⟨aN, nN, cN, aT, nT, cT, e0, rfl, hb⟩
       have HX := Lib.hid (sta_box hb #[.int .i64 kd, .slice aN nN cN, .slice aT nT cT])
       have z0 := HX.out.1.cell 0
       have z1 := HX.out.1.cell 1
       have z2 := HX.out.1.cell 2
       have z3 := HX.out.1.cell 3
       have zf := HX.out.1.fz
       clear hb))
  refine bodyPost_ret (v := fxV Fx.zero) (by simp [results, Tryz.results48, go_sem, fxV, Fx.zero, z0, z1, z2, z3]) rfl ⟨rfl, ?_⟩
  exact below4 HX.out.2 (Nat.le_refl _) _ _ _ _

set_option maxHeartbeats 2000000 in
theorem state_texts (w : World) {tB cB a b : Nat} {c : M.Cl} {L W : Int} (h : WS w dB sB mB n d tB cB a b c L W) {r : C.M.Rc} (hd : C.M.dec c.text.data.toList = some r) (hk : r.kind = 40) (ht : r.texts.length ≠ 0) :
    Calls Tryz.prog 48 #[.pointer (some ⟨tB, 0, none⟩)] w fun e w' => e = .returned (fxV Fx.zero) ∧ Below w.heap.size w w' := by
  have h1 := h.below ((Below.refl w.heap.size w).alloc (Nat.le_refl _) (.cells #[.int .i64 0, .int .i64 0, .int .i64 0, .int .i64 0] 105))
  have q0 := h1.q0
  have HG := Lib.hid (get_any _ h1.cel)
  have htx := h.tx
  have hD := C.decode_ok (Lib.bytesWorld (w.alloc (.cells #[.int .i64 0, .int .i64 0, .int .i64 0, .int .i64 0] 105)) 5 c.text) _ _ _ _ r (Ml.bytes_row (w.alloc (.cells #[.int .i64 0, .int .i64 0, .int .i64 0, .int .i64 0] 105)) c.text (by omega)) hd
  rw [show (w.alloc (.cells #[.int .i64 0, .int .i64 0, .int .i64 0, .int .i64 0] 105)).heap.size = w.heap.size + 1 by simp, hk] at hD
  have kc := Ml.conv_str (w.alloc (.cells #[.int .i64 0, .int .i64 0, .int .i64 0, .int .i64 0] 105)) c.text
  have HLen : Hid (∀ w' B aN nN cN aT nT cT, RecOwn w' B r aN nN cN aT nT cT → nT = r.texts.length) := Lib.hid fun _ _ _ _ _ _ _ _ h => h.at.lenT
  have HD := Lib.hid hD
  clear hD h h1 htx hk hd
  generalize c.text = s at *
  generalize r.texts.length = q at *
  have hne : (((q : Nat) : Int) != 0) = true := by rw [bne_iff_ne]; omega
  clear ht
  go_enter Tryz.func48, Tryz.ntmps48
  go_wp2_with (first
    | (go_at_call 66; with_reducible refine HG.out.mono ?_; rintro e w1 ⟨rfl, rfl⟩)
    | (go_at_call 65; with_reducible refine HD.out.mono ?_; rintro e1 w1 ⟨aN, nN, cN, aT, nT, cT, rfl, hr, hb⟩
       obtain rfl := HLen.out _ _ _ _ _ _ _ _ hr
       have HX := Lib.hid (sta_box hb #[.int .i64 40, .slice aN nN cN, .slice aT nT cT])
       have z0 := HX.out.1.cell 0
       have z1 := HX.out.1.cell 1
       have z2 := HX.out.1.cell 2
       have z3 := HX.out.1.cell 3
       have zf := HX.out.1.fz
       clear hb hr))
  refine bodyPost_ret (v := fxV Fx.zero) (by simp [results, Tryz.results48, go_sem, fxV, Fx.zero, z0, z1, z2, z3]) rfl ⟨rfl, ?_⟩
  exact below4 HX.out.2 (Nat.le_refl _) _ _ _ _

theorem rec_nums {r : C.M.Rc} {x0 x1 x2 x3 : Int} (hs : r.nums = [x0, x1, x2, x3]) {w : World} {B : Nat} {aN : Option Addr} {nN cN : Nat} {aT : Option Addr} {nT cT : Nat} (h : RecOwn w B r aN nN cN aT nT cT) :
    ∃ b, aN = some ⟨b, 0, none⟩ ∧ b < w.heap.size ∧ nN = 4 ∧ 4 ≤ cN ∧ cN ≤ maxLen ∧ w.cell? ⟨b, 0, none⟩ = some (.int .i64 x0) ∧ w.cell? ⟨b, 1, none⟩ = some (.int .i64 x1) ∧ w.cell? ⟨b, 2, none⟩ = some (.int .i64 x2) ∧ w.cell? ⟨b, 3, none⟩ = some (.int .i64 x3) := by
  obtain ⟨hr, ho⟩ := C.own_row h.nums
  have hl := h.at.lenN
  rw [hs] at hl
  obtain rfl : nN = 4 := hl
  obtain ⟨h1, h2, h3, h4⟩ := hr
  rw [hs] at h4
  rcases h4 with h4 | ⟨b, off, ha, hb, hc⟩
  · simp [C.i64s] at h4
  · obtain rfl : off = 0 := (ho b off ha).2
    simp only [Nat.zero_add] at hc
    exact ⟨b, ha, hb, rfl, h2, h3, hc 0 (by omega), hc 1 (by omega), hc 2 (by omega), hc 3 (by omega)⟩

set_option maxHeartbeats 2000000 in
theorem state_no4 (w : World) {tB cB a b : Nat} {c : M.Cl} {L W : Int} (h : WS w dB sB mB n d tB cB a b c L W) {r : C.M.Rc} (hd : C.M.dec c.text.data.toList = some r) (hk : r.kind = 40) (ht : r.texts.length = 0) (hno : r.nums.length ≠ 4) :
    Calls Tryz.prog 48 #[.pointer (some ⟨tB, 0, none⟩)] w fun e w' => e = .returned (fxV Fx.zero) ∧ Below w.heap.size w w' := by
  have h1 := h.below ((Below.refl w.heap.size w).alloc (Nat.le_refl _) (.cells #[.int .i64 0, .int .i64 0, .int .i64 0, .int .i64 0] 105))
  have q0 := h1.q0
  have HG := Lib.hid (get_any _ h1.cel)
  have htx := h.tx
  have hD := C.decode_ok (Lib.bytesWorld (w.alloc (.cells #[.int .i64 0, .int .i64 0, .int .i64 0, .int .i64 0] 105)) 5 c.text) _ _ _ _ r (Ml.bytes_row (w.alloc (.cells #[.int .i64 0, .int .i64 0, .int .i64 0, .int .i64 0] 105)) c.text (by omega)) hd
  rw [show (w.alloc (.cells #[.int .i64 0, .int .i64 0, .int .i64 0, .int .i64 0] 105)).heap.size = w.heap.size + 1 by simp, hk] at hD
  have kc := Ml.conv_str (w.alloc (.cells #[.int .i64 0, .int .i64 0, .int .i64 0, .int .i64 0] 105)) c.text
  have HLen : Hid (∀ w' B aN nN cN aT nT cT, RecOwn w' B r aN nN cN aT nT cT → nT = 0 ∧ nN ≠ 4) := Lib.hid fun _ _ _ _ _ _ _ _ h => ⟨h.at.lenT.trans ht, by rw [h.at.lenN]; exact hno⟩
  have HD := Lib.hid hD
  clear hD h h1 htx hk hd ht hno
  generalize c.text = s at *
  go_enter Tryz.func48, Tryz.ntmps48
  go_wp2_with (first
    | (go_at_call 66; with_reducible refine HG.out.mono ?_; rintro e w1 ⟨rfl, rfl⟩)
    | (go_at_call 65; with_reducible refine HD.out.mono ?_; rintro e1 w1 ⟨aN, nN, cN, aT, nT, cT, rfl, hr, hb⟩
       obtain ⟨rfl, hn4⟩ := HLen.out _ _ _ _ _ _ _ _ hr
       have HX := Lib.hid (sta_box hb #[.int .i64 40, .slice aN nN cN, .slice aT 0 cT])
       have HM := Lib.hid (fun w' => @may_no4 w' aN nN cN hn4)
       have z0 := HX.out.1.cell 0
       have z1 := HX.out.1.cell 1
       have z2 := HX.out.1.cell 2
       have z3 := HX.out.1.cell 3
       have zf := HX.out.1.fz
       clear hb hr hn4)
    | (go_at_call 67; with_reducible refine (HM.out _).mono ?_; rintro e w2 ⟨rfl, rfl⟩))
  refine bodyPost_ret (v := fxV Fx.zero) (by simp [results, Tryz.results48, go_sem, fxV, Fx.zero, z0, z1, z2, z3]) rfl ⟨rfl, ?_⟩
  exact below4 HX.out.2 (Nat.le_refl _) _ _ _ _

set_option maxHeartbeats 4000000 in
theorem state_four (w : World) {tB cB a b : Nat} {c : M.Cl} {L W : Int} (h : WS w dB sB mB n d tB cB a b c L W) {r : C.M.Rc} (hd : C.M.dec c.text.data.toList = some r) (hk : r.kind = 40) (ht : r.texts.length = 0) {x0 x1 x2 x3 : Int} (hs : r.nums = [x0, x1, x2, x3]) :
    Calls Tryz.prog 48 #[.pointer (some ⟨tB, 0, none⟩)] w fun e w' => e = .returned (fxV (if (Fx.mk x0 x1 x2 x3).Ok then ⟨x0, x1, x2, x3⟩ else Fx.zero)) ∧ Below w.heap.size w w' := by
  have h1 := h.below ((Below.refl w.heap.size w).alloc (Nat.le_refl _) (.cells #[.int .i64 0, .int .i64 0, .int .i64 0, .int .i64 0] 105))
  have q0 := h1.q0
  have HG := Lib.hid (get_any _ h1.cel)
  have htx := h.tx
  have hD := C.decode_ok (Lib.bytesWorld (w.alloc (.cells #[.int .i64 0, .int .i64 0, .int .i64 0, .int .i64 0] 105)) 5 c.text) _ _ _ _ r (Ml.bytes_row (w.alloc (.cells #[.int .i64 0, .int .i64 0, .int .i64 0, .int .i64 0] 105)) c.text (by omega)) hd
  rw [show (w.alloc (.cells #[.int .i64 0, .int .i64 0, .int .i64 0, .int .i64 0] 105)).heap.size = w.heap.size + 1 by simp, hk] at hD
  have kc := Ml.conv_str (w.alloc (.cells #[.int .i64 0, .int .i64 0, .int .i64 0, .int .i64 0] 105)) c.text
  have HLen : Hid (∀ w' B aN nN cN aT nT cT, RecOwn w' B r aN nN cN aT nT cT → nT = 0) := Lib.hid fun _ _ _ _ _ _ _ _ h => h.at.lenT.trans ht
  have HN : Hid (∀ (w : World) (B : Nat) (aN : Option Addr) (nN cN : Nat) (aT : Option Addr) (nT cT : Nat), RecOwn w B r aN nN cN aT nT cT → ∃ b, aN = some ⟨b, 0, none⟩ ∧ b < w.heap.size ∧ nN = 4 ∧ 4 ≤ cN ∧ cN ≤ maxLen ∧ w.cell? ⟨b, 0, none⟩ = some (.int .i64 x0) ∧ w.cell? ⟨b, 1, none⟩ = some (.int .i64 x1) ∧ w.cell? ⟨b, 2, none⟩ = some (.int .i64 x2) ∧ w.cell? ⟨b, 3, none⟩ = some (.int .i64 x3)) := Lib.hid fun w B aN nN cN aT nT cT h => rec_nums hs h
  have HD := Lib.hid hD
  have HMy := Lib.hid (fun (w' : World) (b c : Nat) (hc : 4 ≤ c) => @may_4 w' b c x0 x1 x2 x3 hc)
  obtain ⟨ok, hok⟩ : ∃ ok, decide (Fx.mk x0 x1 x2 x3).Ok = ok := ⟨_, rfl⟩
  rw [hok] at HMy
  have Hok := Lib.hid hok
  clear hD h h1 htx hk hd ht hs hok
  generalize c.text = s at *
  cases ok with
  | false =>
    rw [if_neg (of_decide_eq_false Hok.out)]
    go_enter Tryz.func48, Tryz.ntmps48
    go_wp2_with (first
      | (go_at_call 66; with_reducible refine HG.out.mono ?_; rintro e w1 ⟨rfl, rfl⟩)
      | (go_at_call 65; with_reducible refine HD.out.mono ?_; rintro e1 w1 ⟨aN, nN, cN, aT, nT, cT, rfl, hr, hb⟩
         obtain rfl := HLen.out _ _ _ _ _ _ _ _ hr
         obtain ⟨bN, rfl, hbN, rfl, hcap1, hcap2, n0, n1, n2, n3⟩ := HN.out _ _ _ _ _ _ _ _ hr
         have HX := Lib.hid (sta_box hb #[.int .i64 40, .slice (some ⟨bN, 0, none⟩) 4 cN, .slice aT 0 cT])
         have HK := (Below.refl w1.heap.size w1).alloc (Nat.le_refl _) (.cells #[.int .i64 40, .slice (some ⟨bN, 0, none⟩) 4 cN, .slice aT 0 cT] 80)
         have HM := Lib.hid (HMy.out _ bN cN hcap1 ((HK.cell (p := ⟨bN, 0, none⟩) hbN).trans n0) ((HK.cell (p := ⟨bN, 1, none⟩) hbN).trans n1) ((HK.cell (p := ⟨bN, 2, none⟩) hbN).trans n2) ((HK.cell (p := ⟨bN, 3, none⟩) hbN).trans n3))
         have z0 := HX.out.1.cell 0
         have z1 := HX.out.1.cell 1
         have z2 := HX.out.1.cell 2
         have z3 := HX.out.1.cell 3
         have zf := HX.out.1.fz
         clear hb hr HK n0 n1 n2 n3)
      | (go_at_call 67; with_reducible refine HM.out.mono ?_; rintro e w2 ⟨rfl, rfl⟩))
    refine bodyPost_ret (v := fxV Fx.zero) (by simp [results, Tryz.results48, go_sem, fxV, Fx.zero, z0, z1, z2, z3]) rfl ⟨rfl, ?_⟩
    exact below4 HX.out.2 (Nat.le_refl _) _ _ _ _
  | true =>
    rw [if_pos (of_decide_eq_true Hok.out)]
    go_enter Tryz.func48, Tryz.ntmps48
    go_upto_region 4 with (first
      | (go_at_call 66; with_reducible refine HG.out.mono ?_; rintro e w1 ⟨rfl, rfl⟩)
      | (go_at_call 65; with_reducible refine HD.out.mono ?_; rintro e1 w1 ⟨aN, nN, cN, aT, nT, cT, rfl, hr, hb⟩
         obtain rfl := HLen.out _ _ _ _ _ _ _ _ hr
         obtain ⟨bN, rfl, hbN, rfl, hcap1, hcap2, n0, n1, n2, n3⟩ := HN.out _ _ _ _ _ _ _ _ hr
         have HX := Lib.hid (sta_box hb #[.int .i64 40, .slice (some ⟨bN, 0, none⟩) 4 cN, .slice aT 0 cT])
         have HK := (Below.refl w1.heap.size w1).alloc (Nat.le_refl _) (.cells #[.int .i64 40, .slice (some ⟨bN, 0, none⟩) 4 cN, .slice aT 0 cT] 80)
         have k0 := (HK.cell (p := ⟨bN, 0, none⟩) hbN).trans n0
         have k1 := (HK.cell (p := ⟨bN, 1, none⟩) hbN).trans n1
         have k2 := (HK.cell (p := ⟨bN, 2, none⟩) hbN).trans n2
         have k3 := (HK.cell (p := ⟨bN, 3, none⟩) hbN).trans n3
         have HM := Lib.hid (HMy.out _ bN cN hcap1 k0 k1 k2 k3)
         have HRb := Lib.hid (Bo.new w1 #[.int .i64 40, .slice (some ⟨bN, 0, none⟩) 4 cN, .slice aT 0 cT] 80)
         clear hb hr HK n0 n1 n2 n3)
      | (go_at_call 67; with_reducible refine HM.out.mono ?_; rintro e w2 ⟨rfl, rfl⟩))
    clear HG HD HLen HN HMy HM
    generalize hW : w1.alloc (.cells #[.int .i64 40, .slice (some ⟨bN, 0, none⟩) 4 cN, .slice aT 0 cT] 80) = W2 at *
    clear hW
    have r0 := HRb.out.cell 0
    have r1 := HRb.out.cell 1
    have r2 := HRb.out.cell 2
    simp only [maxLen] at hcap2
    go_still_tail 17, (by kernel_rfl)
    change wpList _ _ _ _ _ W2.drew
    have HX3 : Hid (Bo W2.drew w.heap.size #[.int .i64 0, .int .i64 0, .int .i64 0, .int .i64 0] 105 ∧ Below w.heap.size w W2.drew) := Lib.hid ⟨HX.out.1, HX.out.2.drew⟩
    clear HX HRb k0 k1 k2 k3 r0 r1 r2
    generalize W2.drew = W3 at *
    have z0 := HX3.out.1.cell 0
    have z1 := HX3.out.1.cell 1
    have z2 := HX3.out.1.cell 2
    have z3 := HX3.out.1.cell 3
    have zf := HX3.out.1.fz
    go_wp2
    refine bodyPost_ret (v := fxV ⟨x0, x1, x2, x3⟩) (by simp [results, Tryz.results48, go_sem, fxV, z0, z1, z2, z3]) rfl ⟨rfl, ?_⟩
    exact below4 HX3.out.2 (Nat.le_refl _) _ _ _ _

theorem state_any (w : World) {tB cB a b : Nat} {c : M.Cl} {L W : Int} (h : WS w dB sB mB n d tB cB a b c L W) :
    Calls Tryz.prog 48 #[.pointer (some ⟨tB, 0, none⟩)] w fun e w' => e = .returned (fxV (fx c.text)) ∧ Below w.heap.size w w' := by
  cases hd : C.M.dec c.text.data.toList with
  | none => rw [fx_none hd]; exact state_kind w h 0 (.inl ⟨hd, rfl⟩) (by decide)
  | some r =>
    by_cases h1 : r.kind = 40
    · by_cases h2 : r.texts.length = 0
      · by_cases h3 : r.nums.length = 4
        · match hn : r.nums, h3 with
          | [x0, x1, x2, x3], _ =>
            have e : fx c.text = if (Fx.mk x0 x1 x2 x3).Ok then ⟨x0, x1, x2, x3⟩ else Fx.zero := by
              by_cases ho : (Fx.mk x0 x1 x2 x3).Ok
              · rw [if_pos ho, fx_good hd ⟨h1, by rw [hn]; rfl, h2, by rw [hn]; exact ho⟩, hn]; rfl
              · rw [if_neg ho, fx_bad hd fun hr => ho (by have := hr.2.2.2; rw [hn] at this; exact this)]
            rw [e]
            exact state_four w h hd h1 h2 hn
        · rw [fx_bad hd fun hr => h3 hr.2.1]; exact state_no4 w h hd h1 h2 h3
      · rw [fx_bad hd fun hr => h2 hr.2.2.1]; exact state_texts w h hd h1 h2
    · rw [fx_bad hd fun hr => h1 hr.1]; exact state_kind w h r.kind (.inr ⟨r, hd, rfl⟩) h1

/-! ## what it tells -/
theorem epoch_any (w : World) {tB cB a b : Nat} {c : M.Cl} {L W : Int} (h : WS w dB sB mB n d tB cB a b c L W) :
    Calls Tryz.prog 21 #[.pointer (some ⟨tB, 0, none⟩)] w fun e w' => e = .returned (.int .i64 (fx c.text).ep) ∧ Below w.heap.size w w' := by
  have HS := Lib.hid (state_any w h)
  clear h
  generalize fx c.text = x at *
  obtain ⟨ep, ho, ma, ch⟩ := x
  simp only [fxV] at HS ⊢
  have fl : ∀ w, (Instr.field 105 (.agg #[.int .i64 ep, .int .i64 ho, .int .i64 ma, .int .i64 ch]) 0).run Tryz.prog w = .ok (.int .i64 ep) w := fun _ => by kernel_rfl
  go_enter Tryz.func21, Tryz.ntmps21
  go_wp2_with (go_at_call 48; with_reducible refine HS.out.mono ?_; rintro e w1 ⟨rfl, hb⟩)
  go_ret
  exact ⟨rfl, hb⟩
theorem holder_any (w : World) {tB cB a b : Nat} {c : M.Cl} {L W : Int} (h : WS w dB sB mB n d tB cB a b c L W) :
    Calls Tryz.prog 22 #[.pointer (some ⟨tB, 0, none⟩)] w fun e w' => e = .returned (.int .i64 (fx c.text).ho) ∧ Below w.heap.size w w' := by
  have HS := Lib.hid (state_any w h)
  clear h
  generalize fx c.text = x at *
  obtain ⟨ep, ho, ma, ch⟩ := x
  simp only [fxV] at HS ⊢
  have fl : ∀ w, (Instr.field 105 (.agg #[.int .i64 ep, .int .i64 ho, .int .i64 ma, .int .i64 ch]) 1).run Tryz.prog w = .ok (.int .i64 ho) w := fun _ => by kernel_rfl
  go_enter Tryz.func22, Tryz.ntmps22
  go_wp2_with (go_at_call 48; with_reducible refine HS.out.mono ?_; rintro e w1 ⟨rfl, hb⟩)
  go_ret
  exact ⟨rfl, hb⟩
theorem mask_any (w : World) {tB cB a b : Nat} {c : M.Cl} {L W : Int} (h : WS w dB sB mB n d tB cB a b c L W) :
    Calls Tryz.prog 23 #[.pointer (some ⟨tB, 0, none⟩)] w fun e w' => e = .returned (.int .i64 (fx c.text).ma) ∧ Below w.heap.size w w' := by
  have HS := Lib.hid (state_any w h)
  clear h
  generalize fx c.text = x at *
  obtain ⟨ep, ho, ma, ch⟩ := x
  simp only [fxV] at HS ⊢
  have fl : ∀ w, (Instr.field 105 (.agg #[.int .i64 ep, .int .i64 ho, .int .i64 ma, .int .i64 ch]) 2).run Tryz.prog w = .ok (.int .i64 ma) w := fun _ => by kernel_rfl
  go_enter Tryz.func23, Tryz.ntmps23
  go_wp2_with (go_at_call 48; with_reducible refine HS.out.mono ?_; rintro e w1 ⟨rfl, hb⟩)
  go_ret
  exact ⟨rfl, hb⟩
end Go.Proofs.YtpoolpckabpnfaaGreat.Wt
namespace Go.Proofs.YtpoolpckabpnfaaGreat.Wt
open Go.RowKit
open Ml (Mg may)
open C (RecAt RecOwn Own i64s strs u8s)
set_option linter.unusedVariables false
set_option linter.unusedSimpArgs false
set_option maxRecDepth 20000

variable {dB sB mB n : Nat} {d : M.Dv}

theorem crow_nil (w : World) : C.Row w none 0 0 [] := ⟨rfl, Nat.le_refl _, by simp [maxLen], .inl rfl⟩
theorem wt_rec (w : World) (x : Fx) (cs : Array Value) : RecAt ((w.alloc (.cells #[.int .i64 x.ep, .int .i64 x.ho, .int .i64 x.ma, .int .i64 x.ch] 2)).alloc (.cells cs 80)) (fxRec x) (some ⟨w.heap.size, 0, none⟩) 4 4 none 0 0 :=
  ⟨C.row_below (C.own_row (C.own_lit 2 w w.heap.size (i64s [x.ep, x.ho, x.ma, x.ch]) (Nat.le_refl _) (by simp [i64s]))).1 ((Below.refl _ _).alloc (Nat.le_refl _) _) (Nat.le_refl _), crow_nil _⟩
theorem row_but {w w' : World} {l : List Nat} {a : Option Addr} {m cap : Nat} {vs : List Value} (h : C.Row w a m cap vs) (hb : But l w w') (hn : ∀ b off, a = some ⟨b, off, none⟩ → b ∉ l) : C.Row w' a m cap vs := by
  obtain ⟨h1, h2, h3, h4⟩ := h
  refine ⟨h1, h2, h3, ?_⟩
  rcases h4 with h4 | ⟨b, off, ha, hlt, hc⟩
  · exact .inl h4
  · exact .inr ⟨b, off, ha, Nat.lt_of_lt_of_le hlt hb.size, fun i hi => by rw [hb.cell hlt (hn b off ha)]; exact hc i hi⟩

set_option maxHeartbeats 4000000 in
theorem put_any (w : World) {tB cB a b : Nat} {c : M.Cl} {L W : Int} (h : WS w dB sB mB n d tB cB a b c L W) (y : Fx) (hy : y.Ok) :
    Calls Tryz.prog 73 #[.pointer (some ⟨tB, 0, none⟩), fxV y] w fun e w' => e = .returned (.int .i64 (M.puE n d a b c (fxT y))) ∧ WS w' dB sB mB n (M.puD n d a b c (fxT y)) tB cB a b (M.puC n d a b c (fxT y)) L W ∧ But (ours dB sB mB cB tB) w w' := by
  have HP : Hid (∀ w', WS w' dB sB mB n d tB cB a b c L W → Calls Tryz.prog 90 #[.pointer (some ⟨cB, 0, none⟩), .string (C.str (C.M.enc (fxRec y)))] w' fun e w'' => e = .returned (.int .i64 (M.puE n d a b c (fxT y))) ∧ WS w'' dB sB mB n (M.puD n d a b c (fxT y)) tB cB a b (M.puC n d a b c (fxT y)) L W ∧ But (ours dB sB mB cB tB) w' w'') := Lib.hid fun w' h => put_ws h y
  have HS := Lib.hid h
  have HI : Hid (∀ b, w.heap.size ≤ b → b ∉ ours dB sB mB cB tB) := Lib.hid fun b hb => h.not_mem hb
  obtain ⟨hm1, hm2⟩ := fx_may hy
  have HE : Hid (Calls Tryz.prog 89 #[.agg #[.int .i64 40, .slice (some ⟨w.heap.size + 1, 0, none⟩) 4 4, .slice none 0 0]] (((w.alloc (.cells #[.int .i64 y.ep, .int .i64 y.ho, .int .i64 y.ma, .int .i64 y.ch] 105)).alloc (.cells #[.int .i64 y.ep, .int .i64 y.ho, .int .i64 y.ma, .int .i64 y.ch] 2)).alloc (.cells #[.int .i64 40, .slice (some ⟨w.heap.size + 1, 0, none⟩) 4 4, .slice none 0 0] 80)) fun e w' => ∃ a cap, e = .returned (.tuple #[.slice a (C.M.enc (fxRec y)).length cap, .int .i64 0]) ∧ C.Row w' a (C.M.enc (fxRec y)).length cap (u8s (C.M.enc (fxRec y))) ∧ (∀ b off, a = some ⟨b, off, none⟩ → w.heap.size ≤ b) ∧ Below w.heap.size w w') := Lib.hid (by
    have hr := wt_rec (w.alloc (.cells #[.int .i64 y.ep, .int .i64 y.ho, .int .i64 y.ma, .int .i64 y.ch] 105)) y #[.int .i64 40, .slice (some ⟨w.heap.size + 1, 0, none⟩) 4 4, .slice none 0 0]
    rw [show (w.alloc (.cells #[.int .i64 y.ep, .int .i64 y.ho, .int .i64 y.ma, .int .i64 y.ch] 105)).heap.size = w.heap.size + 1 by simp] at hr
    refine (C.encode_yes _ (fxRec y) _ _ _ _ _ _ hr hm1 hm2).mono ?_
    rintro e w' ⟨aE, cE, rfl, ho, hb⟩
    have h3 : Below w.heap.size w (((w.alloc (.cells #[.int .i64 y.ep, .int .i64 y.ho, .int .i64 y.ma, .int .i64 y.ch] 105)).alloc (.cells #[.int .i64 y.ep, .int .i64 y.ho, .int .i64 y.ma, .int .i64 y.ch] 2)).alloc (.cells #[.int .i64 40, .slice (some ⟨w.heap.size + 1, 0, none⟩) 4 4, .slice none 0 0] 80)) := (((Below.refl _ _).alloc (Nat.le_refl _) _).alloc (by simp) _).alloc (by simp; omega) _
    obtain ⟨o1, o2⟩ := C.own_row ho
    exact ⟨aE, cE, rfl, o1, fun b off hx => Nat.le_trans h3.size (o2 b off hx).1, h3.trans (hb.mono h3.size)⟩)
  generalize M.puE n d a b c (fxT y) = E at *
  generalize M.puD n d a b c (fxT y) = D at *
  generalize M.puC n d a b c (fxT y) = C2 at *
  generalize C.M.enc (fxRec y) = l at *
  clear h hy hm1 hm2
  obtain ⟨ep, ho, ma, ch⟩ := y
  simp only [fxV] at HE ⊢
  go_enter Tryz.func73, Tryz.ntmps73
  go_upto_region 3 with (go_at_call 89; with_reducible refine HE.out.mono ?_; rintro e w1 ⟨aE, cE, rfl, hr, hab, hb⟩
                         have HB := Lib.hid hb
                         have S1 := Lib.hid (HS.out.below hb)
                         have HK : Hid (∀ w', But (ours dB sB mB cB tB) w1 w' → w'.cell? ⟨tB, 0, none⟩ = some (.pointer (some ⟨cB, 0, none⟩)) → w'.cell? ⟨tB, 0, none⟩ = some (.pointer (some ⟨cB, 0, none⟩)) ∧ (convert 50 9 (.slice aE l.length cE)).run Tryz.prog w' = .ok (.string (C.str l)) w') := Lib.hid fun w' hb' hq => ⟨hq, C.run_string_bytes (row_but hr hb' fun b off hx => HI.out b (hab b off hx))⟩
                         clear hb hr hab)
  obtain ⟨q0, cv⟩ := HK.out w1 (But.refl _ _) S1.out.q0
  go_region_held3 (fun w' => w'.cell? ⟨tB, 0, none⟩ = some (.pointer (some ⟨cB, 0, none⟩)) ∧ (convert 50 9 (.slice aE l.length cE)).run Tryz.prog w' = .ok (.string (C.str l)) w')
    (first
      | exact ⟨q0, cv⟩
      | exact HK.out w1.drew ((But.of_below (Below.refl w1.heap.size w1).drew).mono (by simp)) q0
      | exact HK.out _ B3.out S3.out.q0)
    (first
      | (go_at_call 90; refine (HP.out w1.drew (S1.out.below (Below.refl w1.heap.size w1).drew)).mono ?_; rintro e w3 ⟨rfl, hs3, hb3⟩
         have S3 := Lib.hid hs3
         have B3 : Hid (But (ours dB sB mB cB tB) w1 w3) := Lib.hid (((But.of_below (Below.refl w1.heap.size w1).drew).mono (by simp)).trans hb3)
         clear hs3 hb3))
  go_wp2
  go_ret
  exact ⟨rfl, S3.out, ((But.of_below HB.out).mono (by simp)).trans B3.out⟩
end Go.Proofs.YtpoolpckabpnfaaGreat.Wt
namespace Go.Proofs.YtpoolpckabpnfaaGreat.Wt
open Go.RowKit
open Ml (Mg may)
set_option linter.unusedVariables false
set_option linter.unusedSimpArgs false
set_option maxRecDepth 20000

/-- the mask of a node alone -/
def bitI (fr : Int) : Int := if fr = 0 then 1 else 2
theorem bit0 (w : World) : Calls Tryz.prog 72 #[.int .i64 0] w fun e w' => e = .returned (.int .i64 1) ∧ w = w' := by
  go_enter Tryz.func72, Tryz.ntmps72
  go_wp2
  go_ret
  exact ⟨rfl, rfl⟩
theorem bit1 (w : World) : Calls Tryz.prog 72 #[.int .i64 1] w fun e w' => e = .returned (.int .i64 2) ∧ w = w' := by
  go_enter Tryz.func72, Tryz.ntmps72
  go_wp2
  go_ret
  exact ⟨rfl, rfl⟩
theorem bit_any (w : World) {fr : Int} (hf : 0 ≤ fr ∧ fr ≤ 1) : Calls Tryz.prog 72 #[.int .i64 fr] w fun e w' => e = .returned (.int .i64 (bitI fr)) ∧ w = w' := by
  have h : fr = 0 ∨ fr = 1 := by omega
  rcases h with rfl | rfl
  · exact bit0 w
  · exact bit1 w
/-- is a node in a mask? -/
theorem and_is {ma fr : Int} (hf : 0 ≤ fr ∧ fr ≤ 1) (hm : 1 ≤ ma ∧ ma ≤ 3) : ∃ v, bits .and .i64 ma (bitI fr) = v ∧ (inM ma fr = true → (v == 0) = false) ∧ (inM ma fr = false → (v == 0) = true) := by
  have h : fr = 0 ∨ fr = 1 := by omega
  have h2 : ma = 1 ∨ ma = 2 ∨ ma = 3 := by omega
  rcases h with rfl | rfl <;> rcases h2 with rfl | rfl | rfl <;> exact ⟨_, rfl, by decide, by decide⟩
/-- a mask without a node -/
theorem not_is {ma fr : Int} (hf : 0 ≤ fr ∧ fr ≤ 1) (hm : 1 ≤ ma ∧ ma ≤ 3) : ∃ v, bits .andNot .i64 ma (bitI fr) = v ∧ (((v != 0) = true ∧ lostM ma fr = v) ∨ ((v != 0) = false ∧ lostM ma fr = ma)) := by
  have h : fr = 0 ∨ fr = 1 := by omega
  have h2 : ma = 1 ∨ ma = 2 ∨ ma = 3 := by omega
  rcases h with rfl | rfl <;> rcases h2 with rfl | rfl | rfl <;> first | exact ⟨_, rfl, .inl ⟨by decide, by decide⟩⟩ | exact ⟨_, rfl, .inr ⟨by decide, by decide⟩⟩
theorem bl1 (W : World) (G o : Nat) (v : Value) : Below G W (W.setCell ⟨G, o, none⟩ v) := (Below.refl G W).setCell (Nat.le_refl _) _
theorem bl2 (W : World) (G o p : Nat) (v u : Value) : Below G W ((W.setCell ⟨G, o, none⟩ v).setCell ⟨G, p, none⟩ u) := (bl1 W G o v).setCell (Nat.le_refl _) _
theorem bl2d (W : World) (G o p : Nat) (v u : Value) : Below G W ((W.setCell ⟨G, o, none⟩ v).setCell ⟨G, p, none⟩ u).drew := (bl2 W G o p v u).drew
end Go.Proofs.YtpoolpckabpnfaaGreat.Wt
namespace Go.Proofs.YtpoolpckabpnfaaGreat
set_option linter.unusedVariables false
set_option linter.unusedSimpArgs false
namespace M
/-! what a device with a fuse does -/
theorem write_ways {d : Dv} {n i : Nat} {l : List UInt8} (hi : i < n) (hl : l.length ≤ 144) :
    (d.dead = false ∧ writeE n d i l = 0 ∧ (writeD n d i l).dead = false ∧ (writeD n d i l).S = d.S ∧ (writeD n d i l).P = upd d.P i (pad l)) ∨
    (writeE n d i l = 30 ∧ (writeD n d i l).dead = true ∧ (writeD n d i l).S = d.S ∧ (writeD n d i l).P = d.P) := by
  unfold writeE writeD
  cases hd : d.dead with
  | true =>
    have hr : reach n d (i : Int) = 30 := by unfold reach; rw [hd, if_pos rfl]
    right
    rw [hr, if_neg (by decide), if_neg (by decide)]
    exact ⟨rfl, hd, rfl, rfl⟩
  | false =>
    have hr : reach n d (i : Int) = 0 := by unfold reach; rw [hd, if_neg (by simp), if_neg (by omega)]
    rw [hr, if_pos rfl, if_pos rfl, if_neg (by omega), if_neg (by omega)]
    unfold actE
    by_cases hf : d.fuse = 0
    · right
      rw [if_pos hf, if_pos hf]
      refine ⟨rfl, ?_, act_S d, act_P d⟩
      unfold actD; rw [if_pos hf]
    · left
      rw [if_neg hf, if_neg hf]
      refine ⟨rfl, rfl, ?_, ?_, rfl⟩
      · show (actD d).dead = false
        unfold actD; rw [if_neg hf]; split <;> exact hd
      · exact act_S d
theorem barrier_ways (d : Dv) :
    (d.dead = false ∧ barrierE d = 0 ∧ (barrierD d).dead = false ∧ (∀ j, (barrierD d).S j = seen d j) ∧ (∀ k, (barrierD d).P k = none)) ∨
    (barrierE d = 30 ∧ (barrierD d).dead = true ∧ (barrierD d).S = d.S ∧ (barrierD d).P = d.P) := by
  by_cases hd : d.dead = true
  · have e1 : barrierE d = 30 := by unfold barrierE; rw [if_pos hd]
    have e2 : barrierD d = d := by unfold barrierD; rw [if_pos hd]
    right
    rw [e1, e2]
    exact ⟨rfl, hd, rfl, rfl⟩
  · by_cases hf : d.fuse = 0
    · have e1 : barrierE d = 30 := by unfold barrierE actE; rw [if_neg hd, if_pos hf]
      have e2 : barrierD d = actD d := by unfold barrierD; rw [if_neg hd, if_pos hf]
      right
      rw [e1, e2]
      exact ⟨rfl, by unfold actD; rw [if_pos hf], act_S d, act_P d⟩
    · have e1 : barrierE d = 0 := by unfold barrierE actE; rw [if_neg hd, if_neg hf]
      have e2 : barrierD d = { actD d with S := sure d, P := fun _ => none } := by unfold barrierD; rw [if_neg hd, if_neg hf]
      left
      rw [e1, e2]
      refine ⟨by simpa using hd, rfl, ?_, fun j => rfl, fun k => rfl⟩
      show (actD d).dead = false
      unfold actD; rw [if_neg hf]; split <;> simpa using hd

/-- how the sectors may be when the power comes again -/
def Two (d : Dv) (S2 : Nat → List UInt8) : Prop := ∀ j : Nat, S2 j = d.S j ∨ S2 j = seen d j
theorem crash_two (P : Int → Option Sec) : ∀ (r : List Int) (l : List (Int × Int)) (S : Nat → Sec) (j : Nat), r.Pairwise (· < ·) → (∀ x ∈ l, x.1 = 0 ∨ x.1 = 1) → (∀ i s, P i = some s → s.length = 144) → (S j).length = 144 → crashS P S r l j = S j ∨ crashS P S r l j = (P j).getD (S j)
  | [], _, S, _, _, _, _, _ => .inl rfl
  | i :: r, [], S, _, _, _, _, _ => .inl rfl
  | i :: r, k :: l, S, j, h, hl, hP, hS => by
    obtain ⟨h1, h2⟩ := List.pairwise_cons.1 h
    simp only [crashS]
    by_cases e : (j : Int) = i
    · rw [crashS_out P r l _ j fun h' => by have := h1 _ h'; omega, if_pos e]
      have hg : ((P i).getD (S j)).length = 144 := by
        cases hp : P i with
        | none => simpa using hS
        | some s => simpa using hP i s hp
      rcases hl k (by simp) with h0 | h0
      · left
        rw [show keptN k.1 k.2 = 0 by unfold keptN; rw [h0]; rfl]
        exact mix_zero _ _
      · right
        rw [show keptN k.1 k.2 = 144 by unfold keptN; rw [h0]; rfl, e]
        unfold mix
        rw [List.take_of_length_le (by omega), List.drop_of_length_le (by omega), List.append_nil]
    · have := crash_two P r l (fun j => if (j : Int) = i then mix ((P i).getD (S j)) (S j) (keptN k.1 k.2) else S j) j h2 (fun x hx => hl x (List.mem_cons_of_mem _ hx)) hP (by rw [if_neg e]; exact hS)
      rwa [if_neg e] at this
theorem Two.crash {n : Nat} {d : Dv} (h : Wf n d) {l : List (Int × Int)} (hl : ∀ x ∈ l, x.1 = 0 ∨ x.1 = 1) : Two d (crashD n d l).S := fun j =>
  crash_two d.P (pendL n d.P) l d.S j (pendL_rising _ _) hl (fun i s hs => (h.pend i s hs).2.2) (h.len j)
end M
namespace Wt
open Go.RowKit
open Ml (Mg may)

/-- the cell that lies in these sectors -/
def cell2 (S : Nat → List UInt8) (a b : Nat) : M.Cl := M.found (M.rdS (S a)) (M.rdS (S b))
/-- what may be said next: never an elder epoch; in the same one it isn't another node's -/
def Suc (x y : Fx) : Prop := x.ep < y.ep ∨ (y.ep = x.ep ∧ (y.ho = x.ho ∨ y.ho = -1))
theorem Suc.refl (x : Fx) : Suc x x := .inr ⟨rfl, .inl rfl⟩

structure FI (n a b : Nat) (d : M.Dv) (c : M.Cl) : Prop where
  wf : M.Wf n d
  ab : a ≠ b ∧ a < n ∧ b < n
  pn : d.dead = false → ∀ k, d.P k = none
  fnd : c = cell2 d.S a b
  safe : ∀ S2, M.Two d S2 → Suc (fx c.text) (fx (cell2 S2 a b).text)

variable {n a b : Nat} {d d' : M.Dv} {c : M.Cl}
theorem FI.same (h : FI n a b d c) (hw : M.Wf n d') (hS : d'.S = d.S) (hP : d'.P = d.P) (hd : d'.dead = false → d.dead = false) : FI n a b d' c :=
  ⟨hw, h.ab, fun e => by rw [hP]; exact h.pn (hd e), by rw [hS]; exact h.fnd, fun S2 h2 => h.safe S2 fun j => by have := h2 j; unfold M.seen at this ⊢; rwa [hS, hP] at this⟩
theorem FI.there (h : FI n a b d c) (hd : d.dead = false) : M.found (M.rdS (M.seen d a)) (M.rdS (M.seen d b)) = c := by
  have hp := h.pn hd
  rw [h.fnd]; unfold cell2 M.seen; rw [hp, hp]; rfl

/-- the cell that is found where the sector that may be written is turned to the slot behind -/
theorem cell2_put {S S' : Nat → List UInt8} {a b : Nat} (hab : a ≠ b) {t : ByteArray} (hg : (cell2 S a b).gen < 4611686018427387904) (ht : t.size ≤ 100)
    (hS : ∀ j : Nat, S' j = if j = M.pos (cell2 S a b).o a b then M.pad (M.slot ((cell2 S a b).gen + 1) t) else S j) :
    cell2 S' a b = ⟨1 - (cell2 S a b).o, (cell2 S a b).gen + 1, t⟩ := by
  have ho : (cell2 S a b).o ≤ 1 := M.found_o _ _
  have hg2 := M.found_gen (S a) (S b)
  have hg3 : 0 ≤ (cell2 S a b).gen := hg2.1
  have hm : M.MayS ((cell2 S a b).gen + 1) t := ⟨by omega, by omega, ht⟩
  have key := M.found_put (l := S a) (m := S b) (z := M.pad (M.slot ((cell2 S a b).gen + 1) t)) (t := t) (M.rdS_pad hm)
  have e1 := hS a
  have e2 := hS b
  change M.found (M.rdS (M.turn (cell2 S a b).o _ _ _).1) (M.rdS (M.turn (cell2 S a b).o _ _ _).2) = ⟨1 - (cell2 S a b).o, (cell2 S a b).gen + 1, t⟩ at key
  unfold cell2 at e1 e2 ⊢
  generalize hc : M.found (M.rdS (S a)) (M.rdS (S b)) = c at *
  have hcc : cell2 S a b = c := hc
  rw [hcc] at key ho
  rw [e1, e2]
  by_cases h0 : c.o = 0
  · rw [h0] at key ⊢
    simp only [M.pos, if_true, M.turn0] at key ⊢
    rw [if_neg (Ne.symm hab)]
    exact key
  · have h1 : c.o = 1 := by omega
    rw [h1] at key ⊢
    simp only [M.pos, M.turn1, show ¬ (1 = 0) by omega, if_false, if_true] at key ⊢
    rw [if_neg hab]
    exact key

theorem FI.put (h : FI n a b d c) {y : Fx} (hy : y.Ok) (hsu : Suc (fx c.text) y) :
    FI n a b (M.puD n d a b c (fxT y)) (M.puC n d a b c (fxT y)) ∧ ((M.puE n d a b c (fxT y) = 0 ∧ M.puC n d a b c (fxT y) = ⟨1 - c.o, c.gen + 1, fxT y⟩) ∨ ((M.puE n d a b c (fxT y) = 23 ∨ M.puE n d a b c (fxT y) = 30) ∧ M.puC n d a b c (fxT y) = c)) := by
  obtain ⟨hab, ha, hb⟩ := h.ab
  have hck := h.fnd
  have ht := fxT_small y
  have hty := fx_fxT hy
  generalize fxT y = t at *
  by_cases hne : c.gen = 4611686018427387904
  · have e1 : M.puE n d a b c t = 23 := by unfold M.puE; rw [if_pos hne]
    have e2 : M.puD n d a b c t = d := by unfold M.puD; rw [if_pos hne]
    have e3 : M.puC n d a b c t = c := by unfold M.puC; rw [if_pos hne]
    rw [e1, e2, e3]
    exact ⟨h, .inr ⟨.inl rfl, rfl⟩⟩
  · have ho : c.o ≤ 1 := by rw [hck]; exact M.found_o _ _
    have hg0 : 0 ≤ c.gen ∧ c.gen ≤ 4611686018427387904 := by rw [hck]; exact M.found_gen _ _
    have hg : (cell2 d.S a b).gen < 4611686018427387904 := by rw [← hck]; omega
    have hm : M.MayS (c.gen + 1) t := ⟨by omega, by omega, ht⟩
    have hp : M.pos c.o a b < n := by unfold M.pos; split <;> omega
    have eE : M.puE n d a b c t = M.putE n d (M.pos c.o a b) (M.slot (c.gen + 1) t) := by unfold M.puE; rw [if_neg hne]
    have eD : M.puD n d a b c t = M.putD n d (M.pos c.o a b) (M.slot (c.gen + 1) t) := by unfold M.puD; rw [if_neg hne]
    have eC : M.puC n d a b c t = M.putC (M.putE n d (M.pos c.o a b) (M.slot (c.gen + 1) t)) c t := by unfold M.puC; rw [if_neg hne]
    have hl : (M.slot (c.gen + 1) t).length ≤ 144 := by have := M.slot_small hm; omega
    have hw1 := M.write_wf h.wf (M.pos c.o a b : Nat) (M.slot (c.gen + 1) t)
    rw [eE, eD, eC]
    unfold M.putE M.putD
    rcases M.write_ways (d := d) hp hl with ⟨w1, w2, w3, w4, w5⟩ | ⟨w2, w3, w4, w5⟩
    · rw [w2, if_pos rfl, if_pos rfl]
      have hpn := h.pn w1
      have hsn : ∀ j : Nat, M.seen (M.writeD n d (M.pos c.o a b : Nat) (M.slot (c.gen + 1) t)) j = if j = M.pos c.o a b then M.pad (M.slot (c.gen + 1) t) else d.S j := by
        intro j
        unfold M.seen
        rw [w4, w5]
        unfold M.upd
        by_cases hj : j = M.pos c.o a b
        · rw [if_pos (by omega), if_pos hj]; rfl
        · rw [if_neg (by omega), if_neg hj, hpn]; rfl
      generalize M.writeD n d (M.pos c.o a b : Nat) (M.slot (c.gen + 1) t) = d1 at *
      rcases M.barrier_ways d1 with ⟨b1, b2, b3, b4, b5⟩ | ⟨b2, b3, b4, b5⟩
      · rw [b2, M.putC_ok]
        have hSS : ∀ j : Nat, (M.barrierD d1).S j = if j = M.pos c.o a b then M.pad (M.slot (c.gen + 1) t) else d.S j := fun j => by rw [b4, hsn]
        have hfn : (⟨1 - c.o, c.gen + 1, t⟩ : M.Cl) = cell2 (M.barrierD d1).S a b := by
          have := cell2_put (S := d.S) (S' := (M.barrierD d1).S) hab hg ht (by rw [← hck]; exact hSS)
          rw [← hck] at this
          exact this.symm
        refine ⟨⟨M.barrier_wf hw1, h.ab, fun _ => b5, hfn, fun S2 h2 => ?_⟩, .inl ⟨rfl, rfl⟩⟩
        have e0 : cell2 S2 a b = cell2 (M.barrierD d1).S a b := by
          have hh : ∀ j : Nat, S2 j = (M.barrierD d1).S j := fun j => by
            rcases h2 j with e | e
            · exact e
            · rw [e]; unfold M.seen; rw [b5]; rfl
          unfold cell2
          rw [hh, hh]
        rw [e0, ← hfn]
        exact Suc.refl _
      · have hn0 : M.putC 30 c t = c := by unfold M.putC; rw [if_neg (by omega)]
        rw [b2, hn0]
        refine ⟨⟨M.barrier_wf hw1, h.ab, fun e => ?_, ?_, fun S2 h2 => ?_⟩, .inr ⟨.inr rfl, rfl⟩⟩
        · rw [b3] at e; simp at e
        · rw [b4, w4]; exact h.fnd
        · have hh : ∀ j : Nat, S2 j = d.S j ∨ (j = M.pos c.o a b ∧ S2 j = M.pad (M.slot (c.gen + 1) t)) := fun j => by
            rcases h2 j with e | e
            · rw [b4, w4] at e; exact .inl e
            · have e' : S2 j = M.seen d1 j := by rw [e]; unfold M.seen; rw [b4, b5]
              rw [hsn] at e'
              by_cases hj : j = M.pos c.o a b
              · rw [if_pos hj] at e'; exact .inr ⟨hj, e'⟩
              · rw [if_neg hj] at e'; exact .inl e'
          rcases hh (M.pos c.o a b) with e | ⟨_, e⟩
          · refine h.safe S2 fun j => .inl ?_
            rcases hh j with e2 | ⟨e2, _⟩
            · exact e2
            · rw [e2]; exact e
          · have hx : ∀ j : Nat, S2 j = if j = M.pos (cell2 d.S a b).o a b then M.pad (M.slot ((cell2 d.S a b).gen + 1) t) else d.S j := by
              rw [← hck]
              intro j
              by_cases hj : j = M.pos c.o a b
              · rw [if_pos hj, hj]; exact e
              · rw [if_neg hj]
                rcases hh j with e2 | ⟨e2, _⟩
                · exact e2
                · exact absurd e2 hj
            rw [cell2_put hab hg ht hx, hty]
            exact hsu
    · have hn0 : M.putC 30 c t = c := by unfold M.putC; rw [if_neg (by omega)]
      rw [w2, if_neg (by decide), if_neg (by decide), hn0]
      refine ⟨h.same hw1 w4 w5 fun e => ?_, .inr ⟨.inr rfl, rfl⟩⟩
      rw [w3] at e; simp at e

/-- what is put may be said next -/
theorem takP_suc {x : Fx} (hx : x.Ok) {L fr : Int} {m : Mg} (hc : can fr m = true) {y : Fx} (h : (takP x L fr m).2 = some y) : Suc x y := by
  obtain ⟨hk, hf, hm⟩ := (can_iff fr m).1 hc
  unfold takP at h
  split at h
  · obtain ⟨_, rfl, _⟩ := askP_ok hx hf h
    exact .inl (by simp only; omega)
  · split at h
    · obtain ⟨_, rfl, _⟩ := chaP_ok hx hm h
      exact .inr ⟨rfl, .inl rfl⟩
    · obtain ⟨_, rfl⟩ := losP_ok hx hf h
      exact .inr ⟨rfl, .inr rfl⟩

/-- a message that comes -/
theorem FI.take (h : FI n a b d c) (L fr : Int) (m : Mg) :
    FI n a b (takD n a b d c L fr m) (takC n a b d c L fr m) ∧
      ((fx (takC n a b d c L fr m).text = fx c.text ∧ (∀ y, can fr m = true → (takP (fx c.text) L fr m).2 = some y → takE n a b d c L fr m = 23 ∨ takE n a b d c L fr m = 30)) ∨
        (can fr m = true ∧ takE n a b d c L fr m = 0 ∧ (takP (fx c.text) L fr m).2 = some (fx (takC n a b d c L fr m).text))) := by
  cases hc : can fr m with
  | false =>
    have e1 : takD n a b d c L fr m = d := by unfold takD; rw [if_neg (by simp [hc])]
    have e2 : takC n a b d c L fr m = c := by unfold takC; rw [if_neg (by simp [hc])]
    rw [e1, e2]
    exact ⟨h, .inl ⟨rfl, fun _ h0 => by simp at h0⟩⟩
  | true =>
    have e1 : takD n a b d c L fr m = doD n a b d c (takP (fx c.text) L fr m) := by unfold takD; rw [if_pos hc]
    have e2 : takC n a b d c L fr m = doC n a b d c (takP (fx c.text) L fr m) := by unfold takC; rw [if_pos hc]
    rw [e1, e2]
    unfold takE
    have hy := fun y => @takP_ok (fx c.text) (fx_ok _) L fr m hc y
    have hs := fun y => @takP_suc (fx c.text) (fx_ok _) L fr m hc y
    generalize takP (fx c.text) L fr m = p at *
    obtain ⟨e, q⟩ := p
    cases q with
    | none => exact ⟨h, .inl ⟨rfl, fun y _ h0 => by simp at h0⟩⟩
    | some y =>
      have hyo := hy y rfl
      obtain ⟨p1, p2⟩ := h.put hyo (hs y rfl)
      simp only [doD, doC, doE]
      refine ⟨p1, ?_⟩
      rcases p2 with ⟨q1, q2⟩ | ⟨q1, q2⟩
      · right
        rw [q2]
        exact ⟨trivial, q1, by simp only; rw [fx_fxT hyo]⟩
      · left
        rw [q2]
        exact ⟨rfl, fun _ _ _ => q1⟩

/-- the power goes, and no sector tears -/
theorem FI.crash (h : FI n a b d c) {l : List (Int × Int)} (hl : ∀ x ∈ l, x.1 = 0 ∨ x.1 = 1) :
    FI n a b (M.crashD n d l) (M.found (M.rdS (M.seen (M.crashD n d l) a)) (M.rdS (M.seen (M.crashD n d l) b))) ∧ Suc (fx c.text) (fx (M.found (M.rdS (M.seen (M.crashD n d l) a)) (M.rdS (M.seen (M.crashD n d l) b))).text) ∧ (M.crashD n d l).dead = false := by
  have hp : ∀ k, (M.crashD n d l).P k = none := fun _ => rfl
  have ht : M.found (M.rdS (M.seen (M.crashD n d l) a)) (M.rdS (M.seen (M.crashD n d l) b)) = cell2 (M.crashD n d l).S a b := rfl
  rw [ht]
  refine ⟨⟨M.crash_wf h.wf l, h.ab, fun _ => hp, rfl, fun S2 h2 => ?_⟩, h.safe _ (M.Two.crash h.wf hl), rfl⟩
  have e0 : cell2 S2 a b = cell2 (M.crashD n d l).S a b := by
    have hh : ∀ j : Nat, S2 j = (M.crashD n d l).S j := fun j => by
      rcases h2 j with e | e
      · exact e
      · rw [e]; rfl
    unfold cell2
    rw [hh, hh]
  rw [e0]
  exact Suc.refl _
theorem FI.fuse (h : FI n a b d c) {k : Int} (hk : -9223372036854775808 ≤ k ∧ k ≤ 9223372036854775807) : FI n a b (M.fuseD d k) c :=
  h.same ⟨h.wf.len, h.wf.pend, hk.1, hk.2⟩ rfl rfl (fun e => e)
theorem fi_fresh (n a b : Nat) (hab : a ≠ b ∧ a < n ∧ b < n) : FI n a b M.fresh M.none0 := by
  have hp : ∀ k, M.fresh.P k = none := fun _ => rfl
  have hf : M.none0 = cell2 M.fresh.S a b := by
    show M.none0 = M.found (M.rdS M.zero) (M.rdS M.zero)
    exact found_zero.symm
  refine ⟨M.fresh_wf n, hab, fun _ => hp, hf, fun S2 h2 => ?_⟩
  have e0 : cell2 S2 a b = cell2 M.fresh.S a b := by
    have hh : ∀ j : Nat, S2 j = M.fresh.S j := fun j => by
      rcases h2 j with e | e
      · exact e
      · rw [e]; rfl
    unfold cell2
    rw [hh, hh]
  rw [e0, ← hf]
  exact Suc.refl _
theorem fx_none0 : fx M.none0.text = Fx.zero := fx_empty

/-! ## without failures -/
structure FR (n a b : Nat) (g : Int) (d : M.Dv) (c : M.Cl) : Prop where
  fi : FI n a b d c
  fr : Free d
  gn : c.gen ≤ g
theorem FR.mono {g g' : Int} (h : FR n a b g d c) (hg : g ≤ g') : FR n a b g' d c := ⟨h.fi, h.fr, by have := h.gn; omega⟩
theorem FR.put {g : Int} (h : FR n a b g d c) (hg : g < 4611686018427387904) {y : Fx} (hy : y.Ok) (hsu : Suc (fx c.text) y) :
    M.puE n d a b c (fxT y) = 0 ∧ M.puC n d a b c (fxT y) = ⟨1 - c.o, c.gen + 1, fxT y⟩ ∧ FR n a b (g + 1) (M.puD n d a b c (fxT y)) (M.puC n d a b c (fxT y)) := by
  obtain ⟨hab, ha, hb⟩ := h.fi.ab
  obtain ⟨p1, p2⟩ := h.fi.put hy hsu
  have hck := h.fi.fnd
  have hgn := h.gn
  have hg0 : 0 ≤ c.gen := by rw [hck]; exact (M.found_gen _ _).1
  have hne : ¬ c.gen = 4611686018427387904 := by omega
  have hm : M.MayS (c.gen + 1) (fxT y) := ⟨by omega, by omega, fxT_small y⟩
  have hp : M.pos c.o a b < n := by unfold M.pos; split <;> omega
  obtain ⟨q1, q2, q3, q4⟩ := put_free h.fr h.fi.wf hp (l := M.slot (c.gen + 1) (fxT y)) (by have := M.slot_small hm; omega)
  have eE : M.puE n d a b c (fxT y) = 0 := by unfold M.puE; rw [if_neg hne]; exact q1
  have eD : M.puD n d a b c (fxT y) = M.putD n d (M.pos c.o a b) (M.slot (c.gen + 1) (fxT y)) := by unfold M.puD; rw [if_neg hne]
  rcases p2 with ⟨_, q⟩ | ⟨q, _⟩
  · refine ⟨eE, q, p1, by rw [eD]; exact q2, ?_⟩
    rw [q]; simp only; omega
  · omega
theorem FR.take {g : Int} (h : FR n a b g d c) (hg : g < 4611686018427387904) (L fr : Int) (m : Mg) :
    FR n a b (g + 1) (takD n a b d c L fr m) (takC n a b d c L fr m) ∧ (can fr m = true → takE n a b d c L fr m = (takP (fx c.text) L fr m).1 ∨ takE n a b d c L fr m = 0) ∧
      (∀ y, can fr m = true → (takP (fx c.text) L fr m).2 = some y → takE n a b d c L fr m = 0 ∧ fx (takC n a b d c L fr m).text = y) ∧
      (can fr m = true → (takP (fx c.text) L fr m).2 = none → takE n a b d c L fr m = (takP (fx c.text) L fr m).1 ∧ fx (takC n a b d c L fr m).text = fx c.text) := by
  cases hc : can fr m with
  | false =>
    have e1 : takD n a b d c L fr m = d := by unfold takD; rw [if_neg (by simp [hc])]
    have e2 : takC n a b d c L fr m = c := by unfold takC; rw [if_neg (by simp [hc])]
    rw [e1, e2]
    exact ⟨h.mono (by omega), by simp, by simp, by simp⟩
  | true =>
    have e1 : takD n a b d c L fr m = doD n a b d c (takP (fx c.text) L fr m) := by unfold takD; rw [if_pos hc]
    have e2 : takC n a b d c L fr m = doC n a b d c (takP (fx c.text) L fr m) := by unfold takC; rw [if_pos hc]
    rw [e1, e2]
    unfold takE
    have hy := fun y => @takP_ok (fx c.text) (fx_ok _) L fr m hc y
    have hs := fun y => @takP_suc (fx c.text) (fx_ok _) L fr m hc y
    generalize takP (fx c.text) L fr m = p at *
    obtain ⟨e, q⟩ := p
    cases q with
    | none =>
      simp only [doD, doC, doE]
      exact ⟨h.mono (by omega), fun _ => .inl trivial, fun _ _ h0 => by simp at h0, fun _ _ => ⟨trivial, trivial⟩⟩
    | some y =>
      have hyo := hy y rfl
      obtain ⟨p1, p2, p3⟩ := h.put hg hyo (hs y rfl)
      simp only [doD, doC, doE]
      refine ⟨p3, fun _ => .inr p1, fun z _ hz => ?_, fun _ h0 => by simp at h0⟩
      injection hz with hz
      subst hz
      exact ⟨p1, by rw [p2]; exact fx_fxT hyo⟩
theorem fr_fresh (n a b : Nat) (hab : a ≠ b ∧ a < n ∧ b < n) : FR n a b 0 M.fresh M.none0 := ⟨fi_fresh n a b hab, Free.fresh, by simp [M.none0]⟩
end Wt
end Go.Proofs.YtpoolpckabpnfaaGreat
