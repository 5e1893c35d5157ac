/-
  Tables of ranges as plain mathematics: range i goes from L i to H i and has class C i.
-/
import Derived.WalkKit
namespace Go.Proofs.Ytedapokahgokgaa
namespace Cl

/-- What must lie ahead of range i. -/
def prev (H : Nat → Int) : Nat → Int
  | 0 => -1
  | i + 1 => H i
/-- Range i may stand where it stands. -/
def okAt (L H C : Nat → Int) (i : Nat) : Prop := prev H i < L i ∧ L i ≤ H i ∧ H i ≤ 1114111 ∧ 1 ≤ C i ∧ C i ≤ 4
/-- The table of the first n ranges may be. -/
def May (L H C : Nat → Int) (n : Nat) : Prop := n ≤ 200 ∧ ∀ i, i < n → okAt L H C i
def okB (L H C : Nat → Int) (i : Nat) : Bool := decide (prev H i < L i) && decide (L i ≤ H i) && decide (H i ≤ 1114111) && decide (1 ≤ C i) && decide (C i ≤ 4)
theorem okB_iff (L H C : Nat → Int) (i : Nat) : okB L H C i = true ↔ okAt L H C i := by
  unfold okB okAt
  simp only [Bool.and_eq_true, decide_eq_true_eq, and_assoc]
/-- The same as a test. -/
def may (L H C : Nat → Int) (n : Nat) : Bool := decide (n ≤ 200) && (List.range n).all (okB L H C)
theorem may_iff (L H C : Nat → Int) (n : Nat) : may L H C n = true ↔ May L H C n := by
  unfold may May
  simp only [Bool.and_eq_true, decide_eq_true_eq, List.all_eq_true, List.mem_range, okB_iff]
theorem may_true {L H C : Nat → Int} {n : Nat} (h : May L H C n) : may L H C n = true := (may_iff L H C n).2 h
theorem may_false {L H C : Nat → Int} {n : Nat} (h : ¬ May L H C n) : may L H C n = false := by
  cases e : may L H C n
  · rfl
  · exact absurd ((may_iff L H C n).1 e) h
theorem of_may {L H C : Nat → Int} {n : Nat} (h : may L H C n = true) : May L H C n := (may_iff L H C n).1 h

/-- The class of p by the m ranges from range k on: that of the first one in which it is. -/
def cls (L H C : Nat → Int) (p : Int) : Nat → Nat → Int
  | _, 0 => 0
  | k, m + 1 => if L k ≤ p ∧ p ≤ H k then C k else cls L H C p (k + 1) m
theorem cls_in {L H C : Nat → Int} {p : Int} {k m : Nat} (hm : 0 < m) (h1 : L k ≤ p) (h2 : p ≤ H k) : cls L H C p k m = C k := by
  match m, hm with
  | m + 1, _ => unfold cls; rw [if_pos ⟨h1, h2⟩]
theorem cls_out {L H C : Nat → Int} {p : Int} {k m : Nat} (hm : 0 < m) (h : ¬ (L k ≤ p ∧ p ≤ H k)) : cls L H C p k m = cls L H C p (k + 1) (m - 1) := by
  match m, hm with
  | m + 1, _ => rw [cls, if_neg h]; rfl
/-- The class of p by a table, 0 by one that may not be. -/
def of (L H C : Nat → Int) (n : Nat) (p : Int) : Int := if may L H C n = true then cls L H C p 0 n else 0
end Cl
end Go.Proofs.Ytedapokahgokgaa
