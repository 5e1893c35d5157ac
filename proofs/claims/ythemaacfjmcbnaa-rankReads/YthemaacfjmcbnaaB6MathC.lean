/-
  Plain mathematics of base64: what the reference reads. No program is named here.
-/
import Derived.Test.YthemaacfjmcbnaaB6MathB
namespace Go.Proofs.Ythemaacfjmcbnaa.B6

/-- Whether r signs begin a group is told by them alone. -/
theorem fp_first {r : Nat} (h1 : 1 ≤ r) (h4 : r ≤ 4) {a b c d a' b' c' d' : Int} (ha : a = a') (hb : 2 ≤ r → b = b') (hc : 3 ≤ r → c = c') (hd : 4 ≤ r → d = d') : r ≤ fp a b c d ↔ r ≤ fp a' b' c' d' := by
  subst ha
  obtain rfl | rfl | rfl | rfl : r = 1 ∨ r = 2 ∨ r = 3 ∨ r = 4 := by omega
  · rw [fp_1, fp_1]
  · rw [fp_2, fp_2, hb (by omega)]
  · rw [fp_3, fp_3, hb (by omega), hc (by omega)]
  · rw [hb (by omega), hc (by omega), hd (by omega)]
/-- All four of a group are signs. -/
def All4 (f : Nat → Int) (k : Nat) : Prop := 0 ≤ val (f (4 * k)) ∧ 0 ≤ val (f (4 * k + 1)) ∧ 0 ≤ val (f (4 * k + 2)) ∧ 0 ≤ val (f (4 * k + 3))
/-- The first m + 1 signs, told by themselves. -/
def Begins (f : Nat → Int) (m : Nat) : Prop := (∀ j, j < m / 4 → All4 f j) ∧ m % 4 + 1 ≤ fp (f (4 * (m / 4))) (f (4 * (m / 4) + 1)) (f (4 * (m / 4) + 2)) (f (4 * (m / 4) + 3))
theorem begins_iff {f : Nat → Int} {n m : Nat} (hm : m < n) : Begins f m ↔ Beg f n m := by
  unfold Begins Beg
  have h1 : (∀ j, j < m / 4 → All4 f j) ↔ Full f n (m / 4) := by
    have q : ∀ j, j < m / 4 → (All4 f j ↔ grp f n j = 4 ∧ cnt f n j = 3) := fun j hj => by
      unfold grp cnt All4
      rw [full_iff, z_lt (by omega), z_lt (by omega), z_lt (by omega), z_lt (by omega)]
    exact ⟨fun h j hj => (q j hj).1 (h j hj), fun h j hj => (q j hj).2 (h j hj)⟩
  have h2 : m % 4 + 1 ≤ fp (f (4 * (m / 4))) (f (4 * (m / 4) + 1)) (f (4 * (m / 4) + 2)) (f (4 * (m / 4) + 3)) ↔ m % 4 + 1 ≤ grp f n (m / 4) := by
    unfold grp
    exact fp_first (by omega) (by omega) (z_lt (by omega)).symm (fun h => (z_lt (by omega)).symm) (fun h => (z_lt (by omega)).symm) (fun h => (z_lt (by omega)).symm)
  rw [h1, h2]
theorem begins_congr {f g : Nat → Int} {m : Nat} (h : ∀ i, i ≤ m → f i = g i) : Begins f m ↔ Begins g m := by
  unfold Begins
  have h1 : (∀ j, j < m / 4 → All4 f j) ↔ (∀ j, j < m / 4 → All4 g j) := by
    have q : ∀ j, j < m / 4 → (All4 f j ↔ All4 g j) := fun j hj => by
      unfold All4
      rw [h _ (by omega), h _ (by omega), h _ (by omega), h _ (by omega)]
    exact ⟨fun h j hj => (q j hj).1 (h j hj), fun h j hj => (q j hj).2 (h j hj)⟩
  rw [h1, fp_first (r := m % 4 + 1) (by omega) (by omega) (h _ (by omega)) (fun _ => h _ (by omega)) (fun _ => h _ (by omega)) (fun _ => h _ (by omega))]

/-- How many signs stand ahead of the pads. -/
theorem good_len {f : Nat → Int} {n : Nat} (h : Good f n) : ∃ L, L ≤ n ∧ (∀ i, i < L → 0 ≤ val (f i)) ∧ (L < n → f L = 61) ∧ decN f n = 3 * L / 4 := by
  by_cases h0 : n = 0
  · subst h0
    exact ⟨0, by omega, fun i hi => absurd hi (by omega), fun hi => absurd hi (by omega), by unfold decN; rw [if_pos rfl]⟩
  have hm := good_mod h
  have hk : 4 * ((n - 1) / 4) < n := by omega
  obtain ⟨g, hg⟩ : ∃ g, (n - 1) / 4 = g := ⟨_, rfl⟩
  rw [hg] at hk
  have hF := good_full h hk
  obtain ⟨hg4, _⟩ := h g hk
  have hc := cnt_bd hg4
  have hN : decN f n = 3 * g + (cnt f n g).toNat := by unfold decN; rw [if_neg h0, hg]
  have hfull : ∀ i, i < 4 * g → 0 ≤ val (f i) := fun i hi => by
    have q := hF (i / 4) (by omega)
    unfold grp cnt at q
    rw [full_iff, z_lt (by omega), z_lt (by omega), z_lt (by omega), z_lt (by omega)] at q
    have hr : i = 4 * (i / 4) ∨ i = 4 * (i / 4) + 1 ∨ i = 4 * (i / 4) + 2 ∨ i = 4 * (i / 4) + 3 := by omega
    rcases hr with e | e | e | e
    · rw [e]; exact q.1
    · rw [e]; exact q.2.1
    · rw [e]; exact q.2.2.1
    · rw [e]; exact q.2.2.2
  have hw := hg4
  have hcn : cnt f n g = np (f (4 * g)) (f (4 * g + 1)) (f (4 * g + 2)) (f (4 * g + 3)) := by
    unfold cnt; rw [z_lt (by omega), z_lt (by omega), z_lt (by omega), z_lt (by omega)]
  unfold grp at hw
  rw [z_lt (by omega), z_lt (by omega), z_lt (by omega), z_lt (by omega)] at hw
  obtain ⟨ha, hb, hcd⟩ := fp_four hw
  have four : ∀ L, L ≤ 4 * g + 4 → (2 < L - 4 * g → 0 ≤ val (f (4 * g + 2))) → (3 < L - 4 * g → 0 ≤ val (f (4 * g + 3))) → ∀ i, i < L → 0 ≤ val (f i) := fun L hL h2 h3 i hi => by
    by_cases hlt : i < 4 * g
    · exact hfull i hlt
    · have hr : i = 4 * g ∨ i = 4 * g + 1 ∨ i = 4 * g + 2 ∨ i = 4 * g + 3 := by omega
      rcases hr with e | e | e | e
      · rw [e]; exact ha
      · rw [e]; exact hb
      · rw [e]; exact h2 (by omega)
      · rw [e]; exact h3 (by omega)
  rcases hcd with ⟨p1, p2, p3⟩ | ⟨p1, p2, p3⟩ | ⟨p1, p2⟩
  · have hc1 : cnt f n g = 1 := by rw [hcn]; unfold np; rw [pd_val ha, pd_val hb, p1, p2, pd_61]; rfl
    refine ⟨4 * g + 2, by omega, four _ (by omega) (fun h => absurd h (by omega)) (fun h => absurd h (by omega)), fun _ => p1, ?_⟩
    rw [hN, hc1]; show 3 * g + 1 = _; omega
  · have hc1 : cnt f n g = 2 := by rw [hcn]; unfold np; rw [pd_val ha, pd_val hb, pd_val p1, p2, pd_61]; rfl
    refine ⟨4 * g + 3, by omega, four _ (by omega) (fun _ => p1) (fun h => absurd h (by omega)), fun _ => p2, ?_⟩
    rw [hN, hc1]; show 3 * g + 2 = _; omega
  · have hc1 : cnt f n g = 3 := by rw [hcn]; unfold np; rw [pd_val ha, pd_val hb, pd_val p1, pd_val p2]; rfl
    refine ⟨4 * g + 4, by omega, four _ (by omega) (fun _ => p1) (fun _ => p2), fun h => absurd h (by omega), ?_⟩
    rw [hN, hc1]; show 3 * g + 3 = _; omega

/-- The last two signs' bits stand at the end of B. -/
def Tail2 (f : Nat → Int) (i : Nat) (B : Int) : Prop := 0 ≤ B ∧ B < 65536 ∧ (1 ≤ i → B % 64 = val (f (i - 1))) ∧ (2 ≤ i → B / 64 % 64 = val (f (i - 2)))
theorem tail_zero (f : Nat → Int) : Tail2 f 0 0 := ⟨by omega, by omega, fun h => absurd h (by omega), fun h => absurd h (by omega)⟩
theorem tail_step {f : Nat → Int} {i : Nat} {B : Int} (h : Tail2 f i B) (hv : 0 ≤ val (f i)) : Tail2 f (i + 1) ((B * 64 + val (f i)) % 65536) := by
  obtain ⟨h0, h1, h2, h3⟩ := h
  have hb := (val_bd (f i)).2
  refine ⟨by omega, by omega, fun _ => ?_, fun hi => ?_⟩
  · rw [show i + 1 - 1 = i by omega]; omega
  · have := h2 (by omega)
    rw [show i + 1 - 2 = i - 1 by omega]; omega
/-- The byte that two signs' bits tell. -/
theorem tail_byte {f : Nat → Int} {i g : Nat} {B : Int} (h : Tail2 f (i + 1) B) :
    (i = 4 * g + 1 → B / 16 % 256 = decF f (3 * g)) ∧ (i = 4 * g + 2 → B / 4 % 256 = decF f (3 * g + 1)) ∧ (i = 4 * g + 3 → B % 256 = decF f (3 * g + 2)) := by
  obtain ⟨h0, h1, h2, h3⟩ := h
  obtain ⟨d0, d1, d2⟩ := decF_at f g
  refine ⟨fun e => ?_, fun e => ?_, fun e => ?_⟩
  · subst e
    have q := h2 (by omega)
    have p := h3 (by omega)
    rw [show 4 * g + 1 + 1 - 1 = 4 * g + 1 by omega] at q
    rw [show 4 * g + 1 + 1 - 2 = 4 * g by omega] at p
    rw [d0]; omega
  · subst e
    have q := h2 (by omega)
    have p := h3 (by omega)
    rw [show 4 * g + 2 + 1 - 1 = 4 * g + 2 by omega] at q
    rw [show 4 * g + 2 + 1 - 2 = 4 * g + 1 by omega] at p
    rw [d1]; omega
  · subst e
    have q := h2 (by omega)
    have p := h3 (by omega)
    rw [show 4 * g + 3 + 1 - 1 = 4 * g + 3 by omega] at q
    rw [show 4 * g + 3 + 1 - 2 = 4 * g + 2 by omega] at p
    rw [d2]; omega
theorem bad_one {f : Nat → Int} {n p q : Nat} (hp : Bad f n p) (hq : Bad f n q) : p = q := by
  obtain ⟨p1, p2, p3⟩ := bad_beg hp
  obtain ⟨q1, q2, q3⟩ := bad_beg hq
  have lp := bad_le hp
  have lq := bad_le hq
  by_cases h : p = q
  · exact h
  · exfalso
    by_cases h1 : p < q
    · exact p2 (by omega) (q1 p h1)
    · exact q2 (by omega) (p1 q (by omega))

/-! A text is read, or there is a place at which it is none. -/
theorem good_or_from {f : Nat → Int} {n : Nat} : ∀ (m k : Nat), n - 4 * k ≤ m → Full f n k → Good f n ∨ ∃ p, Bad f n p := by
  intro m
  induction m with
  | zero => intro k hk hF; exact .inl (good_of_full hF (by omega)).1
  | succ m ih =>
    intro k hk hF
    by_cases hn : n ≤ 4 * k
    · exact .inl (good_of_full hF hn).1
    · have hle := grp_le f n k
      by_cases hg : grp f n k < 4
      · exact .inr ⟨_, k, by omega, hF, .inl ⟨hg, rfl⟩⟩
      · have hg4 : grp f n k = 4 := by omega
        have hc := cnt_bd hg4
        by_cases h3 : cnt f n k = 3
        · exact ih (k + 1) (by omega) (full_succ hF hg4 h3)
        · by_cases hl : 4 * k + 4 < n
          · exact .inr ⟨_, k, by omega, hF, .inr ⟨hg4, by omega, hl, rfl⟩⟩
          · exact .inl (good_of_last hF hg4 (by omega)).1
theorem good_or (f : Nat → Int) (n : Nat) : Good f n ∨ ∃ p, Bad f n p := good_or_from n 0 (by omega) (full_zero f n)
end Go.Proofs.Ythemaacfjmcbnaa.B6
