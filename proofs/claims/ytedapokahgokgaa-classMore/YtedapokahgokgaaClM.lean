/-
  A table with a range more, as plain mathematics.
-/
import Derived.Test.YtedapokahgokgaaClMath
namespace Go.Proofs.Ytedapokahgokgaa
namespace Cl

/-- f with x at place n. -/
def ext (f : Nat → Int) (n : Nat) (x : Int) (i : Nat) : Int := if i < n then f i else x
theorem ext_lt {f : Nat → Int} {n : Nat} {x : Int} {i : Nat} (h : i < n) : ext f n x i = f i := if_pos h
theorem ext_at (f : Nat → Int) (n : Nat) (x : Int) : ext f n x n = x := if_neg (Nat.lt_irrefl n)

theorem cls_congr {L H C L' H' C' : Nat → Int} {p : Int} : ∀ m k, (∀ i, k ≤ i → i < k + m → L i = L' i ∧ H i = H' i ∧ C i = C' i) → cls L H C p k m = cls L' H' C' p k m
  | 0, _, _ => rfl
  | m + 1, k, h => by
    obtain ⟨a, b, c⟩ := h k (Nat.le_refl _) (by omega)
    rw [cls, cls, a, b, c, cls_congr m (k + 1) (fun i h1 h2 => h i (by omega) (by omega))]
theorem cls_snoc_out {L H C : Nat → Int} {p : Int} : ∀ m k, ¬ (L (k + m) ≤ p ∧ p ≤ H (k + m)) → cls L H C p k (m + 1) = cls L H C p k m
  | 0, k, h => by rw [Nat.add_zero] at h; simp [cls, h]
  | m + 1, k, h => by
    have e : k + (m + 1) = k + 1 + m := by omega
    rw [e] at h
    rw [cls, cls_snoc_out m (k + 1) h, cls]
theorem cls_snoc_in {L H C : Nat → Int} {p : Int} : ∀ m k, (∀ i, k ≤ i → i < k + m → ¬ (L i ≤ p ∧ p ≤ H i)) → (L (k + m) ≤ p ∧ p ≤ H (k + m)) → cls L H C p k (m + 1) = C (k + m)
  | 0, k, _, h => by rw [Nat.add_zero] at h ⊢; simp [cls, h]
  | m + 1, k, hn, h => by
    have e : k + (m + 1) = k + 1 + m := by omega
    rw [e] at h ⊢
    rw [cls, if_neg (hn k (Nat.le_refl _) (by omega)), cls_snoc_in m (k + 1) (fun i h1 h2 => hn i (by omega) (by omega)) h]
theorem rising {L H C : Nat → Int} {n : Nat} (h : ∀ i, i < n → okAt L H C i) : ∀ j i, i < j → j < n → H i < L j
  | 0, _, h1, _ => by omega
  | j + 1, i, h1, h2 => by
    have a := (h (j + 1) h2).1
    have b := (h j (by omega)).2.1
    have a' : H j < L (j + 1) := a
    rcases Nat.lt_succ_iff_lt_or_eq.1 h1 with h3 | rfl
    · have := rising h j i h3 (by omega)
      omega
    · exact a'
/-- With a range more: its class for its numbers, and else the class by the others. -/
theorem of_more {L H C : Nat → Int} {n : Nat} {x y z p : Int} (hm : may L H C n = true) (h : may (ext L n x) (ext H n y) (ext C n z) (n + 1) = true) :
    of (ext L n x) (ext H n y) (ext C n z) (n + 1) p = if x ≤ p ∧ p ≤ y then z else of L H C n p := by
  have e1 : of (ext L n x) (ext H n y) (ext C n z) (n + 1) p = cls (ext L n x) (ext H n y) (ext C n z) p 0 (n + 1) := by unfold of; rw [h]; rfl
  have e2 : of L H C n p = cls L H C p 0 n := by unfold of; rw [hm]; rfl
  have hr := (of_may h).2
  rw [e1, e2]
  have e0 : 0 + n = n := by omega
  by_cases hin : x ≤ p ∧ p ≤ y
  · rw [if_pos hin, cls_snoc_in n 0 (fun i _ h2 => ?_) (by rw [e0, ext_at, ext_at]; exact hin), e0, ext_at]
    have := rising hr n i (by omega) (by omega)
    rw [ext_at] at this
    omega
  · rw [if_neg hin, cls_snoc_out n 0 (by rw [e0, ext_at, ext_at]; exact hin)]
    exact cls_congr n 0 (fun i _ h2 => ⟨ext_lt (by omega), ext_lt (by omega), ext_lt (by omega)⟩)
end Cl
end Go.Proofs.Ytedapokahgokgaa
