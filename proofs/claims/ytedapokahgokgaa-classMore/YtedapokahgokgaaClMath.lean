/-
  Tables of ranges as plain mathematics: range i goes from L i to H i and has class C i.
-/
import Derived.WalkKit
namespace Go.Proofs.Ytedapokahgokgaa
namespace Cl

/-- What must lie ahead of range i. -/
def prev (H : Nat → Int) : Nat → Int
  | 0 => -1
  | i + 1 => H i
/-- Range i may stand where it stands. -/
def okAt (L H C : Nat → Int) (i : Nat) : Prop := prev H i < L i ∧ L i ≤ H i ∧ H i ≤ 1114111 ∧ 1 ≤ C i ∧ C i ≤ 4
/-- The table of the first n ranges may be. -/
def May (L H C : Nat → Int) (n : Nat) : Prop := n ≤ 200 ∧ ∀ i, i < n → okAt L H C i
instance (L H C : Nat → Int) (i : Nat) : Decidable (okAt L H C i) := by unfold okAt; infer_instance
instance (L H C : Nat → Int) (n : Nat) : Decidable (May L H C n) := by unfold May; infer_instance
def may (L H C : Nat → Int) (n : Nat) : Bool := decide (May L H C n)
theorem may_true {L H C : Nat → Int} {n : Nat} (h : May L H C n) : may L H C n = true := by unfold may; exact decide_eq_true h
theorem may_false {L H C : Nat → Int} {n : Nat} (h : ¬ May L H C n) : may L H C n = false := by unfold may; exact decide_eq_false h
theorem of_may {L H C : Nat → Int} {n : Nat} (h : may L H C n = true) : May L H C n := by unfold may at h; exact of_decide_eq_true h

/-- The class of p by the m ranges from range k on: that of the first one in which it is. -/
def cls (L H C : Nat → Int) (p : Int) : Nat → Nat → Int
  | _, 0 => 0
  | k, m + 1 => if L k ≤ p ∧ p ≤ H k then C k else cls L H C p (k + 1) m
theorem cls_in {L H C : Nat → Int} {p : Int} {k m : Nat} (hm : 0 < m) (h1 : L k ≤ p) (h2 : p ≤ H k) : cls L H C p k m = C k := by
  match m, hm with
  | m + 1, _ => unfold cls; rw [if_pos ⟨h1, h2⟩]
theorem cls_out {L H C : Nat → Int} {p : Int} {k m : Nat} (hm : 0 < m) (h : ¬ (L k ≤ p ∧ p ≤ H k)) : cls L H C p k m = cls L H C p (k + 1) (m - 1) := by
  match m, hm with
  | m + 1, _ => rw [cls, if_neg h]; rfl
/-- The class of p by a table, 0 by one that may not be. -/
def of (L H C : Nat → Int) (n : Nat) (p : Int) : Int := if may L H C n = true then cls L H C p 0 n else 0
end Cl
end Go.Proofs.Ytedapokahgokgaa
