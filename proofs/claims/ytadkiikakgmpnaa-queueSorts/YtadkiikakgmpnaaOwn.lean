/-
  Rows of a call's own, carried over calls that leave old memory alone. No program is named here.
-/
import Derived.Test.YtadkiikakgmpnaaBase
import Derived.Deep.AppendLies
import Derived.Deep.Onto
namespace Go.Proofs.Ytadkiikakgmpnaa
open Go.RowKit

theorem own_below {w w' : World} {base : Nat} {e : TypeId} {size : Nat} {v : Value} {n : Nat} {xs : List Value} (h : w.ownsRow base e size v n xs) (hb : Below w.heap.size w w') : w'.ownsRow base e size v n xs := by
  refine ⟨h.1, ?_⟩
  rcases h.2 with hn | ⟨g, cap, cur, hv, hB, hg, rest⟩
  · exact .inl hn
  · refine .inr ⟨g, cap, cur, hv, hB, ?_, rest⟩
    rw [hb.block g (Array.getElem?_eq_some_iff.1 hg).1]
    exact hg
end Go.Proofs.Ytadkiikakgmpnaa
