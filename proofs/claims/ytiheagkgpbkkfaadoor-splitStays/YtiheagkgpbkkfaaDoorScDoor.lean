/-
  What the rows' condition on the listed package-level variable gives the walks: scan's endings lie as their initialiser lays them; and a world that meets the condition.
-/
import Derived.Test.YtiheagkgpbkkfaaDoorRows
import Derived.Test.YtiheagkgpbkkfaaDoorScW3
import Derived.ProofKit
import Derived.LaidMore
import Derived.Stop.Joined
import Derived.Lib.LaidTab
import Derived.Stop.LaidErr
namespace Go.Proofs.YtiheagkgpbkkfaaDoor
open Go.RowKit
set_option linter.unusedVariables false
/-- The list of the rows. -/
def laidL : List (String × DataW Unit) := Rows.splitPiecesRow.laid
def endName : String := (Rows.splitPiecesRow.laid.map (·.1)).getD 0 ""
theorem gEnd : Tryd.prog.globalNamed endName = some 0 := by kernel_rfl
theorem tEnd : (Tryd.prog.globals[0]?).map (·.type) = some 95 := by kernel_rfl
/-- The heap that the door's own run leaves meets the condition. -/
theorem door_met (os : Os) (args : Array Value) : laidMetH Tryd.prog laidL ((World.doorLaid Tryd.prog 400 os).forCall (fun _ _ => 0) ⟨#[], args, []⟩).memory :=
  laidMetH_of_parts3 (fuel := 8) (laidMet_of_run' 8 (by kernel_rfl) (by kernel_rfl)) (by kernel_rfl) (by kernel_rfl)
/-- An array of texts that reads as these holds them, cell for cell. -/
theorem cells_of_texts {H : Type} {enc : TypeId × Value → H} {P : Program} {w : World} {base : Nat} {sp : Nat → Bool} {held : Bool} {fuel : Nat} {t e : TypeId} {n : Nat} {cs : List Value} {ls : List (List UInt8)} {p : List MemPlace}
    (ht : P.underlying t = some (.array n e)) (he : P.underlying e = some .string) (hce : P.cellsOf e = 1) (hct : P.cellsOf t = n)
    (h : DataW.trod enc P w base sp held fuel t cs = some (.agg (ls.map fun l => (DataW.lit (Lit.string l) : DataW H)), p)) : ∀ (i : Nat) (l : List UInt8), ls[i]? = some l → cs[i]? = some (Value.string ⟨l.toArray⟩) := by
  cases fuel with
  | zero => simp [DataW.trod] at h
  | succ fuel =>
    simp only [DataW.trod, ht, hce, hct, Nat.mul_one] at h
    split at h
    · rename_i hl
      obtain ⟨xs, hm, hx⟩ := Option.map_eq_some_iff.1 h
      have hxs : xs.map (·.1) = ls.map fun l => (DataW.lit (Lit.string l) : DataW H) := by
        have := congrArg Prod.fst hx
        simpa using this
      have hxl : xs.length = n := by simpa using Lib.mapM_length hm
      have hzl : ls.length = n := by
        have := congrArg List.length hxs
        simp at this
        omega
      intro i l hil
      have hi : i < n := by rw [← hzl]; exact (List.getElem?_eq_some_iff.1 hil).1
      obtain ⟨b, hb, hf⟩ := Lib.mapM_at hm i i (by simp [hi])
      obtain ⟨s, hc, rfl, _⟩ := DataW.trod_string he hf
      have h1 : cs[i]? = some (.string s) := by
        have := congrArg (·[0]?) hc
        simpa [List.getElem?_take, List.getElem?_drop] using this
      have h2 : (xs.map (·.1))[i]? = some (DataW.lit (.string s.data.toList) : DataW H) := by simp [hb]
      rw [hxs] at h2
      simp only [List.getElem?_map, hil, Option.map_some, Option.some.injEq, DataW.lit.injEq, Lit.string.injEq] at h2
      rw [h1, h2]
    · cases h
abbrev Tab (w : World) : Prop := Ends w
theorem of_laid {W : World} (h : laidMetH Tryd.prog laidL W) : Tab W := by
  rw [MakeChecks.laidMetH_plain _ _ _ (by kernel_rfl)] at h
  have h2 : laidMet Tryd.prog [(endName, .agg ([[39, 115], [39, 116], [39, 109], [39, 100], [39, 114, 101], [39, 118, 101], [39, 108, 108]].map fun l => (DataW.lit (Lit.string l) : DataW Unit)))] W := h
  obtain ⟨ps, ⟨g', t', cs, fuel, p, q, hg', ht', hvar, hd, _, _⟩, _⟩ := h2
  obtain rfl := Option.some.inj (gEnd.symm.trans hg')
  obtain rfl := Option.some.inj (tEnd.symm.trans ht')
  have hc := cells_of_texts Tryd.underlying95 Tryd.underlying9 (by kernel_rfl) (by kernel_rfl) hd
  intro j hj
  have hv := World.var?_cell gEnd hvar j
  have hcj : cs.toList[j]? = some (.string (endS j)) := by
    have hjj : j = 0 ∨ j = 1 ∨ j = 2 ∨ j = 3 ∨ j = 4 ∨ j = 5 ∨ j = 6 := by omega
    rcases hjj with rfl | rfl | rfl | rfl | rfl | rfl | rfl <;> exact hc _ _ rfl
  rw [hv]
  simpa using hcj
end Go.Proofs.YtiheagkgpbkkfaaDoor
