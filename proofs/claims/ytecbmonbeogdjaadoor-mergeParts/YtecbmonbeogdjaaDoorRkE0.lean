/-
  Walks of rank.mayBe, of the function by which rank.Write looks for rows that may not be, of slices.IndexFunc and slices.ContainsFunc at it, and of the reference's May.
-/
import Derived.Test.YtecbmonbeogdjaaDoorChecked
import Derived.Test.YtecbmonbeogdjaaDoorRk
import Derived.Deep.LoopGhost
namespace Go.Proofs.YtecbmonbeogdjaaDoor
open Go.RowKit
set_option linter.unusedVariables false

/-- A row may be. -/
def Rk.May (t : ByteArray) (k : Int) : Prop := 1 ≤ t.size ∧ t.size ≤ 64 ∧ 0 ≤ k ∧ k ≤ 9999999

theorem Rk.empty_of {t : ByteArray} (h : t.size = 0) : t.toList.isEmpty = true ∧ t.toList = [] := by
  have : t.toList = [] := by rw [by_toList]; exact List.eq_nil_of_length_eq_zero (by rw [by_length, h])
  rw [this]; exact ⟨rfl, rfl⟩
theorem Rk.full_of {t : ByteArray} (h : t.size ≠ 0) : t.toList.isEmpty = false ∧ ¬ t.toList = [] := by
  have : ¬ t.toList = [] := fun e => h (by rw [← by_length, ← by_toList, e]; rfl)
  exact ⟨by cases hx : t.toList with | nil => exact absurd hx this | cons => rfl, this⟩


set_option maxRecDepth 100000 in
set_option maxHeartbeats 1600000 in
theorem rmay_calls (t : ByteArray) (k : Int) (w : World) :
    Calls Tryd.prog 18 #[.agg #[.string t, .int .i64 k]] w fun e w' => Says e (Rk.May t k) ∧ Below w.heap.size w w' := by
  obtain ⟨T, hT⟩ : ∃ T, t.size = T := ⟨_, rfl⟩
  have HB := hid ((Below.refl w.heap.size w).alloc (Nat.le_refl _) (.cells #[.string t, .int .i64 k] 43))
  by_cases h0 : T = 0
  · have e1 : ¬ (1 : Int) ≤ T := by omega
    have HN := hid (show ¬ Rk.May t k from fun h => by have := h.1; omega)
    go_enter Tryd.func18, Tryd.ntmps18
    go_wp2_with fail
    go_ret
    exact ⟨Says.no HN.out, HB.out⟩
  have e1 : (1 : Int) ≤ T := by omega
  by_cases h1 : T ≤ 64
  · have h1' : (T : Int) ≤ 64 := by omega
    by_cases h2 : 0 ≤ k
    · by_cases h3 : k ≤ 9999999
      · have HN := hid (show Rk.May t k from ⟨by omega, by omega, h2, h3⟩)
        go_enter Tryd.func18, Tryd.ntmps18
        go_wp2_with fail
        go_ret
        exact ⟨Says.yes HN.out, HB.out⟩
      · have h3' : 9999999 < k := by omega
        have HN := hid (show ¬ Rk.May t k from fun h => by have := h.2.2.2; omega)
        go_enter Tryd.func18, Tryd.ntmps18
        go_wp2_with fail
        go_ret
        exact ⟨Says.no HN.out, HB.out⟩
    · have h2' : k < 0 := by omega
      have HN := hid (show ¬ Rk.May t k from fun h => by have := h.2.2.1; omega)
      go_enter Tryd.func18, Tryd.ntmps18
      go_wp2_with fail
      go_ret
      exact ⟨Says.no HN.out, HB.out⟩
  · have h1' : ¬ (T : Int) ≤ 64 := by omega
    have HN := hid (show ¬ Rk.May t k from fun h => by have := h.2.1; omega)
    go_enter Tryd.func18, Tryd.ntmps18
    go_wp2_with fail
    go_ret
    exact ⟨Says.no HN.out, HB.out⟩



end Go.Proofs.YtecbmonbeogdjaaDoor
