/-
  Tables as lists: the order of ranges that lie apart plays no part in a number's class.
-/
import Derived.Test.YtedapokahgokgaaClMath
namespace Go.Proofs.Ytedapokahgokgaa
namespace Cl

abbrev Tab := List (Int × Int × Int)
def tL (T : Tab) (i : Nat) : Int := (T.getD i (0, 0, 0)).1
def tH (T : Tab) (i : Nat) : Int := (T.getD i (0, 0, 0)).2.1
def tC (T : Tab) (i : Nat) : Int := (T.getD i (0, 0, 0)).2.2
/-- The class of p by a table that is a list. -/
def find (p : Int) : Tab → Int
  | [] => 0
  | x :: r => if x.1 ≤ p ∧ p ≤ x.2.1 then x.2.2 else find p r
theorem cls_find (T : Tab) (p : Int) : ∀ m k, k + m = T.length → cls (tL T) (tH T) (tC T) p k m = find p (T.drop k)
  | 0, k, h => by rw [List.drop_eq_nil_of_le (by omega)]; rfl
  | m + 1, k, h => by
    have hk : k < T.length := by omega
    rw [List.drop_eq_getElem_cons hk, cls, find, cls_find T p m (k + 1) (by omega)]
    have e : T.getD k (0, 0, 0) = T[k] := by rw [List.getD_eq_getElem?_getD, List.getElem?_eq_getElem hk]; rfl
    simp only [tL, tH, tC, e]
theorem cls_tab (T : Tab) (p : Int) : cls (tL T) (tH T) (tC T) p 0 T.length = find p T := by
  have := cls_find T p T.length 0 (by omega)
  simpa using this

theorem find_hit {p : Int} {T : Tab} {x : Int × Int × Int} (hx : x ∈ T) (h : x.1 ≤ p ∧ p ≤ x.2.1) (un : ∀ y ∈ T, y.1 ≤ p ∧ p ≤ y.2.1 → y.2.2 = x.2.2) : find p T = x.2.2 := by
  induction T with
  | nil => cases hx
  | cons y r ih =>
    unfold find
    by_cases hy : y.1 ≤ p ∧ p ≤ y.2.1
    · rw [if_pos hy]; exact un y (List.mem_cons_self ..) hy
    · rw [if_neg hy]
      rcases List.mem_cons.1 hx with rfl | hx
      · exact absurd h hy
      · exact ih hx (fun z hz => un z (List.mem_cons_of_mem _ hz))
theorem find_miss {p : Int} {T : Tab} (h : ∀ y ∈ T, ¬ (y.1 ≤ p ∧ p ≤ y.2.1)) : find p T = 0 := by
  induction T with
  | nil => rfl
  | cons y r ih => unfold find; rw [if_neg (h y (List.mem_cons_self ..))]; exact ih (fun z hz => h z (List.mem_cons_of_mem _ hz))

/-- No two ranges of a table meet. -/
def apart (T : Tab) : Bool := T.all fun x => T.all fun y => decide (x = y) || decide (x.2.1 < y.1) || decide (y.2.1 < x.1)
theorem find_same {T U : Tab} (hT : apart T = true) (h1 : T.all (fun x => decide (x ∈ U)) = true) (h2 : U.all (fun x => decide (x ∈ T)) = true) (p : Int) : find p U = find p T := by
  have a : ∀ x ∈ T, ∀ y ∈ T, x.1 ≤ p ∧ p ≤ x.2.1 → y.1 ≤ p ∧ p ≤ y.2.1 → y.2.2 = x.2.2 := by
    intro x hx y hy h h'
    have := List.all_eq_true.1 (List.all_eq_true.1 hT x hx) y hy
    simp only [Bool.or_eq_true, decide_eq_true_eq] at this
    rcases this with (rfl | h3) | h3
    · rfl
    · omega
    · omega
  have m1 : ∀ x ∈ T, x ∈ U := fun x hx => by simpa using List.all_eq_true.1 h1 x hx
  have m2 : ∀ x ∈ U, x ∈ T := fun x hx => by simpa using List.all_eq_true.1 h2 x hx
  by_cases hex : ∃ x, x ∈ T ∧ x.1 ≤ p ∧ p ≤ x.2.1
  · obtain ⟨x, hx, h⟩ := hex
    rw [find_hit hx h (fun y hy h' => a x hx y hy h h'), find_hit (m1 x hx) h (fun y hy h' => a x hx y (m2 y hy) h h')]
  · rw [find_miss (fun y hy h => hex ⟨y, hy, h⟩), find_miss (fun y hy h => hex ⟨y, m2 y hy, h⟩)]
end Cl
end Go.Proofs.Ytedapokahgokgaa
