/-
  Walks of vocab.sizeOf, vocab.tokensOf.
-/
import Derived.Test.YtfgbpjajkmfkoaaVcMathB
import Derived.Test.YtfgbpjajkmfkoaaVcW7
import Derived.Test.YtfgbpjajkmfkoaaVcW5
namespace Go.Proofs.Ytfgbpjajkmfkoaa
open Go.RowKit
set_option linter.unusedVariables false

/-- What sizeOf answers. -/
def SzOut (rs sp : Vc.Sps) (e : Ending) : Prop :=
  ((∀ i, i < rs.length → Vc.Num (kat rs i)) ∧ (∀ i, i < sp.length → Vc.Num (kat sp i)) ∧ ∃ N : Nat, Vc.Sz rs sp N ∧ N ≤ 4096 ∧ e = .returned (.tuple #[.int .i64 (N : Int), .bool true])) ∨
  ((¬ ((∀ i, i < rs.length → Vc.Num (kat rs i)) ∧ (∀ i, i < sp.length → Vc.Num (kat sp i)))) ∧ e = .returned (.tuple #[.int .i64 0, .bool false]))

theorem max_up {N : Nat} {x : Int} (h : Vc.Num x) : ∃ N' : Nat, N ≤ N' ∧ x + 1 ≤ (N' : Int) ∧ ((N' = N) ∨ (N' : Int) = x + 1) ∧ (if (N : Int) < x + 1 then x + 1 else (N : Int)) = (N' : Int) ∧ max (N : Int) (x + 1) = (N' : Int) ∧ (N ≤ 4096 → N' ≤ 4096) := by
  obtain ⟨h0, h1⟩ := h
  by_cases hc : (N : Int) < x + 1
  · exact ⟨(x + 1).toNat, by omega, by omega, by omega, by rw [if_pos hc]; omega, by omega, by omega⟩
  · exact ⟨N, by omega, by omega, by omega, by rw [if_neg hc], by omega, fun h => h⟩

end Go.Proofs.Ytfgbpjajkmfkoaa
