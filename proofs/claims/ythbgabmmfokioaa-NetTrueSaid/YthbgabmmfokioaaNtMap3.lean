/-
  A map from letters to numbers: read between the making of an entry and the store into it.
-/
import Derived.Test.YthbgabmmfokioaaNtTally
namespace Go.Proofs.Ythbgabmmfokioaa.Nt
open Go.RowKit Go.Maps
open Go.ChangeMaps (setBlock heap_setBlock_same heap_setBlock_other)
set_option linter.unusedVariables false
set_option linter.unusedSimpArgs false
set_option maxRecDepth 20000

theorem ok_world {α : Type} {v v' : α} {w w' : World} (h : Result.ok v w = Result.ok v' w') : w = w' := by injection h
theorem ML.mid {w w1 : World} {b n : Nat} {f : Lt → Option Int} (h : ML w b n f) (hn : n < maxLen) {x : Lt} (hx : Gd x) {v : Value}
    (e1 : (Instr.mapEntry 45 (.map (some b)) (.agg #[.int .i64 x.fr, .int .i64 x.to, .string x.body])).run Try.prog w = .ok v w1) :
    (Instr.lookup 45 (.map (some b)) (.agg #[.int .i64 x.fr, .int .i64 x.to, .string x.body]) false).run Try.prog w1 = .ok (.int .i64 ((f x).getD 0)) w1 := by
  have hl := h.look hx
  have hkey := key_of x hx
  have ht := Try.underlying45
  obtain ⟨D, h1, hs⟩ := h
  have h1' := h1
  obtain ⟨es, clock, hb, F, hsz, hD⟩ := h1
  rcases ltLaw0.find w hkey es.toList F.keys with ⟨g1, g2⟩ | ⟨j, e0, g1, g2, g3⟩
  · have hz : (f x).getD 0 = 0 := by
      have : (Instr.lookup 45 (.map (some b)) (.agg #[.int .i64 x.fr, .int .i64 x.to, .string x.body]) false).run Try.prog w = .ok (.int .i64 0) w := by
        simp [Instr.lookup, run_underlying ht, MapKept.run_getObj_map hb, ltLaw0.check w _ hkey, g1, zeroI, Result.andThen]
      rw [hl] at this
      injection this with this
      injection this
    have em : (Instr.mapEntry 45 (.map (some b)) (.agg #[.int .i64 x.fr, .int .i64 x.to, .string x.body])).run Try.prog w = .ok (.tuple #[.int .i64 0, goInt clock]) (setBlock w b (.map (es.push ⟨.agg #[.int .i64 x.fr, .int .i64 x.to, .string x.body], .int .i64 0, clock⟩) (clock + 1))) := by
      simp [Instr.mapEntry, run_underlying ht, MapKept.run_getObj_map hb, ltLaw0.check w false hkey, g1, zeroI, MapKept.run_setObj_map _ hb, Result.andThen, setBlock]
    have eu : (Instr.mapUpdate 45 (.map (some b)) (.agg #[.int .i64 x.fr, .int .i64 x.to, .string x.body]) (.int .i64 0)).run Try.prog w = .ok () (setBlock w b (.map (es.push ⟨.agg #[.int .i64 x.fr, .int .i64 x.to, .string x.body], .int .i64 0, clock⟩) (clock + 1))) := by
      simp [Instr.mapUpdate, run_underlying ht, MapKept.run_getObj_map hb, ltLaw0.check w false hkey, g1, MapKept.run_setObj_map _ hb, Result.andThen, setBlock]
    have e2 := ok_world (em.symm.trans e1)
    clear e1
    have e1 := e2
    clear e2
    obtain ⟨w3, u1, u2, u3⟩ := h1'.update ltLaw ht hn hkey (plainElem_int Try.underlying3 (int_wf' (c := 0) (by omega) (by omega)))
    have u1 := ok_world (eu.symm.trans u1)
    have hm : ML w1 b (n + 1) (upd f x (some 0)) := by rw [← e1, u1]; exact ⟨_, u2, says_put hs hx 0⟩
    rw [hm.look hx, hz]
    simp [upd]
  · have hj : es[j]? = some e0 := by simpa using g2
    have hsame : es.modify j (fun e => { e with key := (.agg #[.int .i64 x.fr, .int .i64 x.to, .string x.body]) }) = es := by
      apply Array.ext'
      rw [Array.toList_modify, Go.ChangeMaps.modify_eq_set _ _ _ _ g2]
      have : ({ e0 with key := (.agg #[.int .i64 x.fr, .int .i64 x.to, .string x.body]) } : MapEntry) = e0 := by rw [← g3]
      rw [this]
      exact Go.WideElems.set_self _ _ _ g2
    have em : ∃ v', (Instr.mapEntry 45 (.map (some b)) (.agg #[.int .i64 x.fr, .int .i64 x.to, .string x.body])).run Try.prog w = .ok v' (setBlock w b (.map es clock)) :=
      ⟨.tuple #[e0.val, goInt e0.born], by simp [Instr.mapEntry, run_underlying ht, MapKept.run_getObj_map hb, ltLaw0.check w false hkey, g1, hj, g3, ltLaw0.stays w hkey, hsame, MapKept.run_setObj_map _ hb, Result.andThen, setBlock]⟩
    obtain ⟨v', em⟩ := em
    have e2 := ok_world (em.symm.trans e1)
    clear e1
    have e1 := e2
    clear e2
    have hm : ML w1 b n f := ML.of_block (w := w) ⟨D, h1', hs⟩ (by rw [← e1]; exact (heap_setBlock_same hb _).trans hb.symm)
    exact hm.look hx
end Go.Proofs.Ythbgabmmfokioaa.Nt
