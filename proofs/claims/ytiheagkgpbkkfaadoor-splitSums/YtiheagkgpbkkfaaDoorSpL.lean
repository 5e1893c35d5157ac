/-
  What a text's pieces are, at whatever kind and table, as a plain function. No program is named here.
-/
import Derived.Test.YtiheagkgpbkkfaaDoorSpM
import Derived.Test.YtiheagkgpbkkfaaDoorLotC
import Derived.Test.YtiheagkgpbkkfaaDoorScNxV
namespace Go.Proofs.YtiheagkgpbkkfaaDoor
set_option linter.unusedVariables false
/-- A class is one of five. -/
theorem Cl.of_rg (L H C : Nat → Int) (n : Nat) (p : Int) : 0 ≤ Cl.of L H C n p ∧ Cl.of L H C n p ≤ 4 := by
  cases hm : Cl.may L H C n with
  | false => unfold Cl.of; rw [hm, if_neg (by decide)]; exact ⟨by decide, by decide⟩
  | true =>
    have hM := (Cl.may_iff _ _ _ _).1 hm
    have key : ∀ (m k : Nat), k + m ≤ n → 0 ≤ Cl.cls L H C p k m ∧ Cl.cls L H C p k m ≤ 4 := by
      intro m
      induction m with
      | zero => intro k _; unfold Cl.cls; exact ⟨by decide, by decide⟩
      | succ m ih =>
        intro k hkm
        unfold Cl.cls
        split
        · have := hM.2 k (by omega)
          obtain ⟨_, _, _, h4, h5⟩ := this
          omega
        · exact ih (k + 1) (by omega)
    unfold Cl.of
    rw [hm]
    exact key n 0 (by omega)
namespace Sp
/-- A text's pieces: none, if the kind or the table may not be. -/
def cutL (cl : Int → Int) (may : Bool) (kind : Int) (fin : Bool) (xs : List Int) : List (Nat × Bool) :=
  if 0 ≤ kind ∧ kind ≤ 3 ∧ may = true then sp (Xk cl kind.toNat) fin false xs else []
theorem cutL_no {cl : Int → Int} {may : Bool} {kind : Int} {fin : Bool} {xs : List Int} (h : ¬ (0 ≤ kind ∧ kind ≤ 3 ∧ may = true)) : cutL cl may kind fin xs = [] := if_neg h
theorem cutL_yes {cl : Int → Int} {kind : Nat} {fin : Bool} {xs : List Int} (h : kind ≤ 3) : cutL cl true (kind : Int) fin xs = sp (Xk cl kind) fin false xs := by
  unfold cutL
  rw [if_pos ⟨by omega, by omega, rfl⟩, Int.toNat_natCast]
theorem length_le_total {X : List Int → Bool → Nat × Bool} (hX : Cut X) (fin o : Bool) : ∀ (k : Nat) (l : List Int), l.length ≤ k → ∀ o, (sp X fin o l).length ≤ l.length
  | _, [], _, o => by rw [sp_nil]; exact Nat.le_refl _
  | 0, x :: l, h, _ => by simp at h
  | k + 1, x :: l, h, o => by
    cases hx : isB x with
    | false =>
      rw [sp_mark fin o l hx]
      have := length_le_total hX fin o k l (by simpa using h) o
      simp only [List.length_cons]
      omega
    | true =>
      obtain ⟨⟨n, d⟩, hq⟩ : ∃ q, X ((x :: l).take (rl (x :: l))) (fin || decide (rl (x :: l) < (x :: l).length)) = q := ⟨_, rfl⟩
      have hp := hX.pos ((x :: l).take (rl (x :: l))) (fin || decide (rl (x :: l) < (x :: l).length)) (run_ne hx)
      rw [hq, run_len] at hp
      have hl := rl_le (x :: l)
      simp only [List.length_cons] at hp hl h
      rw [sp_byte hX fin o hx hq]
      have := length_le_total hX fin o k ((x :: l).drop n) (by rw [List.length_drop, List.length_cons]; omega) (o || !d)
      rw [List.length_drop, List.length_cons] at this
      simp only [List.length_cons]
      omega
theorem cutL_len {cl : Int → Int} (hr : ∀ p, 0 ≤ cl p ∧ cl p ≤ 4) (may : Bool) (kind : Int) (fin : Bool) (xs : List Int) : (cutL cl may kind fin xs).length ≤ xs.length := by
  unfold cutL
  split
  · rename_i h
    exact length_le_total (Xk_cut hr (by omega)) fin false _ xs (Nat.le_refl _) false
  · exact Nat.zero_le _
end Sp
end Go.Proofs.YtiheagkgpbkkfaaDoor
