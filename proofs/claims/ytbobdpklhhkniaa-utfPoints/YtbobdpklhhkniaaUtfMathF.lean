/-
  The code points of all bytes, and how many bytes at the end need more: plain functions.
-/
import Derived.Test.YtbobdpklhhkniaaUtfMathD
namespace Go.Proofs.Ytbobdpklhhkniaa.Utf

def sh (f : Nat → Int) (k : Nat) : Nat → Int := fun i => f (k + i)
theorem sh_sh (f : Nat → Int) (a b : Nat) : sh (sh f a) b = sh f (a + b) := by funext i; simp [sh, Nat.add_assoc]
theorem sh_zero (f : Nat → Int) : sh f 0 = f := by funext i; simp [sh]

/-- How many bytes a step takes. -/
def stepN (f : Nat → Int) (n : Nat) (fin : Bool) : Nat := (dec f n fin).2.1.toNat
def ptsK : Nat → (Nat → Int) → Nat → List Int
  | 0, _, _ => []
  | k + 1, f, n => if n = 0 then [] else (dec f n true).1 :: ptsK k (sh f (stepN f n true)) (n - stepN f n true)
def pts (f : Nat → Int) (n : Nat) : List Int := ptsK n f n
def restK : Nat → (Nat → Int) → Nat → Nat
  | 0, _, _ => 0
  | k + 1, f, n => if n = 0 then 0 else if (dec f n false).2.2 = true then n else restK k (sh f (stepN f n false)) (n - stepN f n false)
def rest (f : Nat → Int) (n : Nat) : Nat := restK n f n

/-- What decoding may answer. -/
theorem dec_cases (f : Nat → Int) (n : Nat) (fin : Bool) (hn : 0 < n) :
    (∃ s : Nat, 0 < s ∧ s ≤ n ∧ sizeOf (f 0) = s ∧ (∀ j, 1 ≤ j → j < s → okAt f j) ∧ dec f n fin = (jn (p0 s (f 0)) f (s - 1), (s : Int), false)) ∨
    (fin = false ∧ (∃ s : Nat, n < s ∧ s ≤ 4 ∧ sizeOf (f 0) = s) ∧ (∀ j, 1 ≤ j → j < n → okAt f j) ∧ dec f n fin = (-1, 0, true)) ∨
    (dec f n fin = (-1, 1, false) ∧ ∀ s : Nat, 0 < s → s ≤ n → sizeOf (f 0) = s → ¬ ∀ j, 1 ≤ j → j < s → okAt f j) := by
  have hsb := sizeOf_bd (f 0)
  obtain ⟨s, hs⟩ := Int.eq_ofNat_of_zero_le hsb.1
  have hle := fpN_le f (min s n)
  have hfp := fpN_FP f (min s n) (by omega)
  by_cases hA : 0 < s ∧ fpN f (min s n) = s
  · refine Or.inl ⟨s, hA.1, by omega, hs, ?_, dec_yes hn hs hA.1 hA.2⟩
    have := hfp.2.1
    rw [hA.2] at this
    exact this
  · by_cases hB : fpN f (min s n) = n ∧ fin = false
    · obtain ⟨hB, rfl⟩ := hB
      refine Or.inr (Or.inl ⟨rfl, ⟨s, by omega, by omega, hs⟩, ?_, dec_more hn hs hA hB⟩)
      have := hfp.2.1
      rw [hB] at this
      exact this
    · refine Or.inr (Or.inr ⟨dec_no hn hs hA hB, fun t h0 ht he hok => hA ?_⟩)
      have : t = s := by omega
      subst this
      refine ⟨h0, ?_⟩
      rw [Nat.min_eq_left ht]
      exact (fpN_full (by omega)).2 hok

theorem step_true {f : Nat → Int} {n : Nat} (hn : 0 < n) : (dec f n true).2.2 = false ∧ 1 ≤ stepN f n true ∧ stepN f n true ≤ n ∧ (dec f n true).2.1 = (stepN f n true : Int) := by
  unfold stepN
  rcases dec_cases f n true hn with ⟨s, h0, h1, _, _, e⟩ | ⟨e, _⟩ | ⟨e, _⟩
  · rw [e]; simp; omega
  · cases e
  · rw [e]; simp; omega
theorem step_false {f : Nat → Int} {n : Nat} (hn : 0 < n) (hm : (dec f n false).2.2 = false) : 1 ≤ stepN f n false ∧ stepN f n false ≤ n ∧ (dec f n false).2.1 = (stepN f n false : Int) := by
  unfold stepN
  rcases dec_cases f n false hn with ⟨s, h0, h1, _, _, e⟩ | ⟨_, _, _, e⟩ | ⟨e, _⟩
  · rw [e]; simp; omega
  · rw [e] at hm; cases hm
  · rw [e]; simp; omega

theorem ptsK_fuel : ∀ (k l : Nat) (f : Nat → Int) (n : Nat), n ≤ k → n ≤ l → ptsK k f n = ptsK l f n
  | 0, 0, _, _, _, _ => rfl
  | 0, l + 1, f, n, h, _ => by obtain rfl : n = 0 := by omega
                               simp [ptsK]
  | k + 1, 0, f, n, _, h => by obtain rfl : n = 0 := by omega
                               simp [ptsK]
  | k + 1, l + 1, f, n, h, h' => by
    unfold ptsK
    by_cases hn : n = 0
    · rw [if_pos hn, if_pos hn]
    · rw [if_neg hn, if_neg hn]
      have := step_true (f := f) (n := n) (by omega)
      rw [ptsK_fuel k l _ _ (by omega) (by omega)]
theorem restK_fuel : ∀ (k l : Nat) (f : Nat → Int) (n : Nat), n ≤ k → n ≤ l → restK k f n = restK l f n
  | 0, 0, _, _, _, _ => rfl
  | 0, l + 1, f, n, h, _ => by obtain rfl : n = 0 := by omega
                               simp [restK]
  | k + 1, 0, f, n, _, h => by obtain rfl : n = 0 := by omega
                               simp [restK]
  | k + 1, l + 1, f, n, h, h' => by
    unfold restK
    by_cases hn : n = 0
    · rw [if_pos hn, if_pos hn]
    · rw [if_neg hn, if_neg hn]
      by_cases hm : (dec f n false).2.2 = true
      · rw [if_pos hm, if_pos hm]
      · rw [if_neg hm, if_neg hm]
        have := step_false (f := f) (n := n) (by omega) (by simpa using hm)
        rw [restK_fuel k l _ _ (by omega) (by omega)]

theorem pts_zero (f : Nat → Int) : pts f 0 = [] := rfl
theorem pts_step (f : Nat → Int) {n : Nat} (hn : 0 < n) : pts f n = (dec f n true).1 :: pts (sh f (stepN f n true)) (n - stepN f n true) := by
  obtain ⟨k, rfl⟩ : ∃ k, n = k + 1 := ⟨n - 1, by omega⟩
  have := step_true (f := f) (n := k + 1) (by omega)
  show ptsK (k + 1) f (k + 1) = _
  unfold ptsK
  rw [if_neg (by omega)]
  unfold pts
  rw [ptsK_fuel k _ _ _ (by omega) (Nat.le_refl _)]
theorem rest_zero (f : Nat → Int) : rest f 0 = 0 := rfl
theorem rest_more (f : Nat → Int) {n : Nat} (hn : 0 < n) (hm : (dec f n false).2.2 = true) : rest f n = n := by
  obtain ⟨k, rfl⟩ : ∃ k, n = k + 1 := ⟨n - 1, by omega⟩
  show restK (k + 1) f (k + 1) = _
  unfold restK
  rw [if_neg (by omega), if_pos hm]
theorem rest_step (f : Nat → Int) {n : Nat} (hn : 0 < n) (hm : (dec f n false).2.2 = false) : rest f n = rest (sh f (stepN f n false)) (n - stepN f n false) := by
  obtain ⟨k, rfl⟩ : ∃ k, n = k + 1 := ⟨n - 1, by omega⟩
  have := step_false (f := f) (n := k + 1) (by omega) hm
  show restK (k + 1) f (k + 1) = _
  unfold restK
  rw [if_neg (by omega), if_neg (by rw [hm]; simp)]
  unfold rest
  rw [restK_fuel k _ _ _ (by omega) (Nat.le_refl _)]

theorem pts_len : ∀ (k n : Nat) (f : Nat → Int), n ≤ k → (pts f n).length ≤ n
  | 0, n, f, h => by obtain rfl : n = 0 := by omega
                     simp [pts_zero]
  | k + 1, n, f, h => by
    by_cases hn : n = 0
    · subst hn; simp [pts_zero]
    · have := step_true (f := f) (n := n) (by omega)
      rw [pts_step f (by omega)]
      have ih := pts_len k (n - stepN f n true) (sh f (stepN f n true)) (by omega)
      simp; omega

/-- Bytes none of which can be a first one. -/
theorem pts_tails : ∀ (k n : Nat) (f : Nat → Int), n ≤ k → (∀ i, i < n → tail f i) → pts f n = List.replicate n (-1)
  | 0, n, f, h, _ => by obtain rfl : n = 0 := by omega
                        simp [pts_zero]
  | k + 1, n, f, h, ht => by
    by_cases hn : n = 0
    · subst hn; simp [pts_zero]
    · have t0 := ht 0 (by omega)
      unfold tail at t0
      have e : dec f n true = (-1, 1, false) := dec_zero (by omega) (sizeOf_0 (by omega) (by omega))
      have e1 : stepN f n true = 1 := by unfold stepN; rw [e]; rfl
      rw [pts_step f (by omega), e1, e, pts_tails k (n - 1) (sh f 1) (by omega) (fun i hi => by
        have := ht (1 + i) (by omega)
        exact this)]
      obtain ⟨m, rfl⟩ : ∃ m, n = m + 1 := ⟨n - 1, by omega⟩
      rfl

/-- What is decided is so of a first part that holds it, as if nothing came behind. -/
theorem dec_prefix {f : Nat → Int} {m n : Nat} (h1 : 1 ≤ m) (hmn : m ≤ n) (hd : (dec f n false).2.2 = false) (hN : stepN f n false ≤ m) : dec f m true = dec f n false := by
  unfold stepN at hN
  rcases dec_cases f n false (by omega) with ⟨s, h0, hs1, hs, hok, e⟩ | ⟨_, _, _, e⟩ | ⟨e, hno⟩
  · rw [e] at hN ⊢
    simp at hN
    have := sizeOf_bd (f 0)
    exact (dec_full (by omega) (by omega) (by omega) hs).1 hok
  · rw [e] at hd; cases hd
  · rw [e]
    rcases dec_cases f m true h1 with ⟨s, h0, hs1, hs, hok, _⟩ | ⟨x, _⟩ | ⟨e', _⟩
    · exact absurd hok (hno s h0 (by omega) hs)
    · cases x
    · exact e'

theorem rest_le : ∀ (k n : Nat) (f : Nat → Int), n ≤ k → rest f n ≤ n ∧ rest f n < 4
  | 0, n, f, h => by obtain rfl : n = 0 := by omega
                     simp [rest_zero]
  | k + 1, n, f, h => by
    by_cases hn : n = 0
    · subst hn; simp [rest_zero]
    · cases hm : (dec f n false).2.2
      · have := step_false (f := f) (n := n) (by omega) hm
        have ih := rest_le k (n - stepN f n false) (sh f (stepN f n false)) (by omega)
        rw [rest_step f (by omega) hm]
        omega
      · rw [rest_more f (by omega) hm]
        rcases dec_cases f n false (by omega) with ⟨s, _, _, _, _, e⟩ | ⟨_, ⟨s, a, b, _⟩, _, _⟩ | ⟨e, _⟩
        · rw [e] at hm; cases hm
        · omega
        · rw [e] at hm; cases hm

/-- The points are those of the bytes ahead of the ones that need more, and then of none. -/
theorem pts_rest : ∀ (k n : Nat) (f : Nat → Int), n ≤ k → pts f n = pts f (n - rest f n) ++ List.replicate (rest f n) (-1)
  | 0, n, f, h => by obtain rfl : n = 0 := by omega
                     simp [rest_zero]
  | k + 1, n, f, h => by
    by_cases hn : n = 0
    · subst hn; simp [rest_zero]
    · cases hm : (dec f n false).2.2
      · have hs := step_false (f := f) (n := n) (by omega) hm
        have ih := pts_rest k (n - stepN f n false) (sh f (stepN f n false)) (by omega)
        have hr := rest_le k (n - stepN f n false) (sh f (stepN f n false)) (by omega)
        have er := rest_step f (n := n) (by omega) hm
        rw [← er] at ih hr
        have e1 : dec f n true = dec f n false := dec_prefix (by omega) (Nat.le_refl _) hm (by omega)
        have e2 : dec f (n - rest f n) true = dec f n false := dec_prefix (by omega) (by omega) hm (by omega)
        have n1 : stepN f n true = stepN f n false := by unfold stepN; rw [e1]
        have n2 : stepN f (n - rest f n) true = stepN f n false := by unfold stepN; rw [e2]
        rw [pts_step f (n := n) (by omega), n1, e1, ih, pts_step f (n := n - rest f n) (by omega), n2, e2]
        rw [show n - stepN f n false - rest f n = n - rest f n - stepN f n false by omega]
        rfl
      · rw [rest_more f (by omega) hm, Nat.sub_self, pts_zero, List.nil_append]
        rcases dec_cases f n false (by omega) with ⟨s, _, _, _, _, e⟩ | ⟨_, ⟨s, a, b, hs⟩, hok, _⟩ | ⟨e, _⟩
        · rw [e] at hm; cases hm
        · have e : dec f n true = (-1, 1, false) := (dec_part (by omega) (by omega) a hs).2.2
          have e1 : stepN f n true = 1 := by unfold stepN; rw [e]; rfl
          rw [pts_step f (by omega), e1, e, pts_tails (n - 1) (n - 1) (sh f 1) (Nat.le_refl _) (fun i hi => ?_)]
          · obtain ⟨m, rfl⟩ : ∃ m, n = m + 1 := ⟨n - 1, by omega⟩
            rfl
          · show tail f (1 + i)
            have := ((ok_all (f := f) (n := n) (by omega)).1 hok)
            by_cases hi0 : i = 0
            · subst hi0; exact tail_of_ok this.1
            · exact this.2 (1 + i) (by omega) (by omega)
        · rw [e] at hm; cases hm

end Go.Proofs.Ytbobdpklhhkniaa.Utf
