/-
  A text is read, or there is a place at which it is none: plain mathematics.
-/
import Derived.Test.YthemaacfjmcbnaaB6MathB
namespace Go.Proofs.Ythemaacfjmcbnaa.B6

theorem good_or_from {f : Nat → Int} {n : Nat} : ∀ (m k : Nat), n - 4 * k ≤ m → Full f n k → Good f n ∨ ∃ p, Bad f n p := by
  intro m
  induction m with
  | zero => intro k hk hF; exact .inl (good_of_full hF (by omega)).1
  | succ m ih =>
    intro k hk hF
    by_cases hn : n ≤ 4 * k
    · exact .inl (good_of_full hF hn).1
    · have hle := grp_le f n k
      by_cases hg : grp f n k < 4
      · exact .inr ⟨_, k, by omega, hF, .inl ⟨hg, rfl⟩⟩
      · have hg4 : grp f n k = 4 := by omega
        have hc := cnt_bd hg4
        by_cases h3 : cnt f n k = 3
        · exact ih (k + 1) (by omega) (full_succ hF hg4 h3)
        · by_cases hl : 4 * k + 4 < n
          · exact .inr ⟨_, k, by omega, hF, .inr ⟨hg4, by omega, hl, rfl⟩⟩
          · exact .inl (good_of_last hF hg4 (by omega)).1
theorem good_or (f : Nat → Int) (n : Nat) : Good f n ∨ ∃ p, Bad f n p := good_or_from n 0 (by omega) (full_zero f n)
end Go.Proofs.Ythemaacfjmcbnaa.B6
