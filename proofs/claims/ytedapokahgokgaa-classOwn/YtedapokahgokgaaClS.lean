/-
  The two usual tables give every number the same class; a row of the call's own as a slice of ranges.
-/
import Derived.Test.YtedapokahgokgaaClT
import Derived.Test.YtedapokahgokgaaClR3
import Derived.Test.YtedapokahgokgaaClF
namespace Go.Proofs.Ytedapokahgokgaa
open Go.RowKit
set_option linter.unusedVariables false

theorem usual_find (p : Int) : Cl.find p rTab = Cl.find p uTab := Cl.find_same (by decide +kernel) (by decide +kernel) (by decide +kernel) p
theorem usual_cls (p : Int) : Cl.cls (Cl.tL rTab) (Cl.tH rTab) (Cl.tC rTab) p 0 51 = Cl.of UL UH UC 51 p := by
  have h : Cl.of UL UH UC 51 p = Cl.cls UL UH UC p 0 51 := by unfold Cl.of; rw [uMay]; rfl
  rw [h]
  exact (Cl.cls_tab rTab p).trans ((usual_find p).trans (Cl.cls_tab uTab p).symm)

theorem tvals_get (T : Cl.Tab) : ∀ i, i < T.length → (tvals T)[i * 3]? = some (.int .i64 (Cl.tL T i)) ∧ (tvals T)[i * 3 + 1]? = some (.int .i64 (Cl.tH T i)) ∧ (tvals T)[i * 3 + 2]? = some (.int .i64 (Cl.tC T i)) := by
  induction T with
  | nil => intro i hi; simp at hi
  | cons x r ih =>
    intro i hi
    have e : tvals (x :: r) = [.int .i64 x.1, .int .i64 x.2.1, .int .i64 x.2.2] ++ tvals r := by simp [tvals]
    match i with
    | 0 => rw [e]; exact ⟨rfl, rfl, rfl⟩
    | i + 1 =>
      have := ih i (by simpa using hi)
      rw [e]
      have f : ∀ k, ([.int .i64 x.1, .int .i64 x.2.1, .int .i64 x.2.2] ++ tvals r)[(i + 1) * 3 + k]? = (tvals r)[i * 3 + k]? := fun k => by
        rw [List.getElem?_append_right (by simp; omega)]
        congr 1
        simp; omega
      exact ⟨(f 0).trans this.1, (f 1).trans this.2.1, (f 2).trans this.2.2⟩
theorem Rs.own {w : World} {base : Nat} {e : TypeId} {v : Value} {n : Nat} {T : Cl.Tab} (h : w.ownsRow base e 3 v n (tvals T)) (hT : T.length = n) : ∃ a cap, v = .slice a n cap ∧ Rs w a n cap (Cl.tL T) (Cl.tH T) (Cl.tC T) := by
  subst hT
  obtain ⟨hl, h⟩ := h
  rcases h with ⟨rfl, h0⟩ | ⟨g, cap, cur, rfl, hb, hg, hn, hm, hs, ht⟩
  · exact ⟨none, 0, by rw [h0], by omega, Nat.zero_le _, fun _ => ⟨h0, rfl⟩, fun h => absurd h (by omega)⟩
  · refine ⟨_, cap, rfl, hn, hm, fun h => absurd h (by simp), fun h0 => ⟨g, 0, rfl, (Array.getElem?_eq_some_iff.1 hg).1, ?_⟩⟩
    have key : ∀ j x, (tvals T)[j]? = some x → w.cell? ⟨g, 0 + j, none⟩ = some x := fun j x hj => by
      rw [← ht] at hj
      have hj' : j < T.length * 3 := by
        have := (List.getElem?_eq_some_iff.1 hj).1
        simp at this; omega
      rw [List.getElem?_take_of_lt hj'] at hj
      have e2 : cur[j]? = some x := by simpa using hj
      simp [World.cell?, hg, e2]
    exact ⟨fun i hi => key _ _ (tvals_get T i hi).1, fun i hi => key _ _ (tvals_get T i hi).2.1, fun i hi => key _ _ (tvals_get T i hi).2.2⟩
end Go.Proofs.Ytedapokahgokgaa
