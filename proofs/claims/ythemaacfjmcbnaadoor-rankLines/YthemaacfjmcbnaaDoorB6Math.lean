/-
  Plain mathematics of base64: signs and their numbers, texts of bytes, bytes of texts. No program is named here.
-/
import Derived.Test.YthemaacfjmcbnaaDoorSl
namespace Go.Proofs.YthemaacfjmcbnaaDoor.B6

/-- The number that a sign stands for; -1. -/
def val (c : Int) : Int :=
  if 65 ≤ c ∧ c ≤ 90 then c - 65 else if 97 ≤ c ∧ c ≤ 122 then c - 71 else if 48 ≤ c ∧ c ≤ 57 then c + 4 else if c = 43 then 62 else if c = 47 then 63 else -1
/-- The sign of a number. -/
def sgn (v : Int) : Int :=
  if v ≤ 25 then v + 65 else if v ≤ 51 then v + 71 else if v ≤ 61 then v - 4 else if v = 62 then 43 else 47

theorem val_bd (c : Int) : -1 ≤ val c ∧ val c ≤ 63 := by
  unfold val
  repeat' split
  all_goals omega
theorem sgn_bd (v : Int) (h : 0 ≤ v) : 43 ≤ sgn v ∧ sgn v ≤ 122 := by
  unfold sgn
  repeat' split
  all_goals omega
theorem val_sgn (v : Int) (h : 0 ≤ v) (h' : v ≤ 63) : val (sgn v) = v := by
  unfold sgn
  repeat' split
  all_goals (unfold val; repeat' split)
  all_goals omega
theorem sgn_val (c : Int) (h : 0 ≤ val c) : sgn (val c) = c := by
  unfold val at h ⊢
  repeat' split
  all_goals (unfold sgn; repeat' split)
  all_goals first | omega | (simp_all; try omega)
theorem val_pad : val 61 = -1 := by decide
theorem val_zero : val 0 = -1 := by decide
theorem sgn_ne (v : Int) (h : 0 ≤ v) (h' : v ≤ 63) : sgn v ≠ 61 := by
  unfold sgn
  repeat' split
  all_goals omega

/-- f up to n, and zeros behind it. -/
def z (f : Nat → Int) (n : Nat) : Nat → Int := fun i => if i < n then f i else 0
theorem z_lt {f : Nat → Int} {n i : Nat} (h : i < n) : z f n i = f i := by unfold z; rw [if_pos h]
theorem z_ge {f : Nat → Int} {n i : Nat} (h : n ≤ i) : z f n i = 0 := by unfold z; rw [if_neg (by omega)]
theorem z_bd {f : Nat → Int} {n : Nat} (hf : ∀ i, 0 ≤ f i ∧ f i ≤ 255) (i : Nat) : 0 ≤ z f n i ∧ z f n i ≤ 255 := by
  unfold z; split
  · exact hf i
  · omega

/-! The text of bytes. -/
/-- Six bits, the k-th ones of three bytes. -/
def six (k : Nat) (a b c : Int) : Int := if k = 0 then a / 4 else if k = 1 then a % 4 * 16 + b / 16 else if k = 2 then b % 16 * 4 + c / 64 else c % 64
/-- The k-th sign of n bytes' group. -/
def one (k n : Nat) (a b c : Int) : Int := if k ≤ n then sgn (six k a b c) else 61
/-- The i-th sign of the text of n bytes. -/
def encF (f : Nat → Int) (n : Nat) (i : Nat) : Int := one (i % 4) (n - 3 * (i / 4)) (z f n (3 * (i / 4))) (z f n (3 * (i / 4) + 1)) (z f n (3 * (i / 4) + 2))
def encN (n : Nat) : Nat := (n + 2) / 3 * 4
theorem six_bd (k : Nat) {a b c : Int} (ha : 0 ≤ a ∧ a ≤ 255) (hb : 0 ≤ b ∧ b ≤ 255) (hc : 0 ≤ c ∧ c ≤ 255) : 0 ≤ six k a b c ∧ six k a b c ≤ 63 := by
  unfold six; repeat' split
  all_goals omega
theorem one_bd (k n : Nat) {a b c : Int} (ha : 0 ≤ a ∧ a ≤ 255) (hb : 0 ≤ b ∧ b ≤ 255) (hc : 0 ≤ c ∧ c ≤ 255) : 0 ≤ one k n a b c ∧ one k n a b c ≤ 255 := by
  unfold one; split
  · have := sgn_bd _ (six_bd k ha hb hc).1; omega
  · omega
theorem encF_bd {f : Nat → Int} (hf : ∀ i, 0 ≤ f i ∧ f i ≤ 255) (n i : Nat) : 0 ≤ encF f n i ∧ encF f n i ≤ 255 := one_bd _ _ (z_bd hf _) (z_bd hf _) (z_bd hf _)
/-- The sign k of group g. -/
theorem encF_at (f : Nat → Int) (n g k : Nat) (hk : k < 4) : encF f n (4 * g + k) = one k (n - 3 * g) (z f n (3 * g)) (z f n (3 * g + 1)) (z f n (3 * g + 2)) := by
  unfold encF
  rw [show (4 * g + k) % 4 = k by omega, show (4 * g + k) / 4 = g by omega]

/-! The bytes of a text. -/
/-- How many signs at the front of a group are those with which one begins. -/
def fp (a b c d : Int) : Nat :=
  if val a < 0 then 0 else if val b < 0 then 1 else if c = 61 ∧ val b % 16 = 0 then (if d = 61 then 4 else 3) else if val c < 0 then 2
  else if d = 61 ∧ val c % 4 = 0 then 4 else if val d < 0 then 3 else 4
def pd (c : Int) : Int := if c = 61 then 1 else 0
/-- How many bytes a group has. -/
def np (a b c d : Int) : Int := 3 - pd a - pd b - pd c - pd d
def u (c : Int) : Int := if c = 61 then 0 else val c
def grp (f : Nat → Int) (n k : Nat) : Nat := fp (z f n (4 * k)) (z f n (4 * k + 1)) (z f n (4 * k + 2)) (z f n (4 * k + 3))
def cnt (f : Nat → Int) (n k : Nat) : Int := np (z f n (4 * k)) (z f n (4 * k + 1)) (z f n (4 * k + 2)) (z f n (4 * k + 3))
def Full (f : Nat → Int) (n k : Nat) : Prop := ∀ j, j < k → grp f n j = 4 ∧ cnt f n j = 3
def Good (f : Nat → Int) (n : Nat) : Prop := ∀ k, 4 * k < n → grp f n k = 4 ∧ (cnt f n k = 3 ∨ n ≤ 4 * k + 4)
def Bad (f : Nat → Int) (n p : Nat) : Prop := ∃ k, 4 * k < n ∧ Full f n k ∧ ((grp f n k < 4 ∧ p = 4 * k + grp f n k) ∨ (grp f n k = 4 ∧ cnt f n k < 3 ∧ 4 * k + 4 < n ∧ p = 4 * k + 4))
def decN (f : Nat → Int) (n : Nat) : Nat := if n = 0 then 0 else 3 * ((n - 1) / 4) + (cnt f n ((n - 1) / 4)).toNat
/-- The byte i of a text. -/
def decF (f : Nat → Int) (i : Nat) : Int :=
  if i % 3 = 0 then (val (f (i + i / 3)) * 4 + val (f (i + i / 3 + 1)) / 16) % 256
  else if i % 3 = 1 then (val (f (i + i / 3)) * 16 + val (f (i + i / 3 + 1)) / 4) % 256
  else (val (f (i + i / 3)) * 64 + val (f (i + i / 3 + 1))) % 256
theorem decF_bd (f : Nat → Int) (i : Nat) : 0 ≤ decF f i ∧ decF f i ≤ 255 := by
  unfold decF; repeat' split
  all_goals omega

theorem fp_le (a b c d : Int) : fp a b c d ≤ 4 := by
  unfold fp
  repeat' split
  all_goals omega
/-- What a whole group is. -/
theorem fp_four {a b c d : Int} (h : fp a b c d = 4) : 0 ≤ val a ∧ 0 ≤ val b ∧
    ((c = 61 ∧ d = 61 ∧ val b % 16 = 0) ∨ (0 ≤ val c ∧ d = 61 ∧ val c % 4 = 0) ∨ (0 ≤ val c ∧ 0 ≤ val d)) := by
  unfold fp at h
  repeat' split at h
  all_goals omega
theorem val_ne {c : Int} (h : 0 ≤ val c) : c ≠ 61 := fun e => by subst e; rw [val_pad] at h; omega
theorem val_ne0 {c : Int} (h : 0 ≤ val c) : c ≠ 0 := fun e => by subst e; rw [val_zero] at h; omega
theorem pd_val {c : Int} (h : 0 ≤ val c) : pd c = 0 := by unfold pd; rw [if_neg (val_ne h)]
theorem pd_61 : pd 61 = 1 := rfl
theorem u_val {c : Int} (h : 0 ≤ val c) : u c = val c := by unfold u; rw [if_neg (val_ne h)]
theorem u_61 : u 61 = 0 := rfl
theorem np_four {a b c d : Int} (h : fp a b c d = 4) : 1 ≤ np a b c d ∧ np a b c d ≤ 3 := by
  obtain ⟨ha, hb, h | h | h⟩ := fp_four h
  · unfold np; rw [pd_val ha, pd_val hb, h.1, h.2.1]; decide
  · unfold np; rw [pd_val ha, pd_val hb, pd_val h.1, h.2.1, pd_61]; omega
  · unfold np; rw [pd_val ha, pd_val hb, pd_val h.1, pd_val h.2]; omega
/-- All four are signs. -/
theorem full_iff (a b c d : Int) : (fp a b c d = 4 ∧ np a b c d = 3) ↔ (0 ≤ val a ∧ 0 ≤ val b ∧ 0 ≤ val c ∧ 0 ≤ val d) := by
  constructor
  · rintro ⟨h, hn⟩
    obtain ⟨ha, hb, h | h | h⟩ := fp_four h
    · unfold np at hn; rw [pd_val ha, pd_val hb, h.1, h.2.1, pd_61] at hn; omega
    · unfold np at hn; rw [pd_val ha, pd_val hb, pd_val h.1, h.2.1, pd_61] at hn; omega
    · exact ⟨ha, hb, h⟩
  · rintro ⟨ha, hb, hc, hd⟩
    have n1 := val_ne hc
    have n2 := val_ne hd
    refine ⟨?_, ?_⟩
    · unfold fp
      rw [if_neg (by omega), if_neg (by omega), if_neg (fun h => n1 h.1), if_neg (by omega), if_neg (fun h => n2 h.1), if_neg (by omega)]
    · unfold np; rw [pd_val ha, pd_val hb, pd_val hc, pd_val hd]; omega
/-- A whole group lies within the text. -/
theorem grp_in {f : Nat → Int} {n k : Nat} (h : grp f n k = 4) : 4 * k + 4 ≤ n := by
  obtain ⟨_, _, h⟩ := fp_four h
  by_cases hn : 4 * k + 3 < n
  · omega
  · rw [z_ge (i := 4 * k + 3) (by omega), val_zero] at h
    omega
theorem grp_le (f : Nat → Int) (n k : Nat) : grp f n k ≤ 4 := fp_le _ _ _ _
theorem full_in {f : Nat → Int} {n k : Nat} (h : Full f n k) : 4 * k ≤ n := by
  by_cases hk : k = 0
  · omega
  · have := grp_in (h (k - 1) (by omega)).1; omega
theorem full_zero (f : Nat → Int) (n : Nat) : Full f n 0 := fun j hj => absurd hj (by omega)
theorem full_succ {f : Nat → Int} {n k : Nat} (h : Full f n k) (h1 : grp f n k = 4) (h2 : cnt f n k = 3) : Full f n (k + 1) := fun j hj => by
  by_cases e : j = k
  · subst e; exact ⟨h1, h2⟩
  · exact h j (by omega)
theorem cnt_bd {f : Nat → Int} {n k : Nat} (h : grp f n k = 4) : 1 ≤ cnt f n k ∧ cnt f n k ≤ 3 := np_four h
theorem good_of_full {f : Nat → Int} {n k : Nat} (h : Full f n k) (hn : n ≤ 4 * k) : Good f n ∧ decN f n = 3 * k := by
  have h1 := full_in h
  obtain rfl : n = 4 * k := by omega
  refine ⟨fun j hj => ⟨(h j (by omega)).1, Or.inl (h j (by omega)).2⟩, ?_⟩
  unfold decN
  split
  · omega
  · rw [show (4 * k - 1) / 4 = k - 1 by omega, (h (k - 1) (by omega)).2]
    show 3 * (k - 1) + 3 = 3 * k
    omega
theorem good_of_last {f : Nat → Int} {n k : Nat} (h : Full f n k) (h1 : grp f n k = 4) (hn : n ≤ 4 * k + 4) : Good f n ∧ decN f n = 3 * k + (cnt f n k).toNat := by
  have h2 := grp_in h1
  obtain rfl : n = 4 * k + 4 := by omega
  refine ⟨fun j hj => ?_, ?_⟩
  · by_cases e : j = k
    · subst e; exact ⟨h1, Or.inr (by omega)⟩
    · exact ⟨(h j (by omega)).1, Or.inl (h j (by omega)).2⟩
  · unfold decN
    rw [if_neg (by omega), show (4 * k + 4 - 1) / 4 = k by omega]
theorem good_full {f : Nat → Int} {n k : Nat} (h : Good f n) (hk : 4 * k < n) : Full f n k := fun j hj => by
  obtain ⟨a, b⟩ := h j (by omega)
  exact ⟨a, by omega⟩
theorem good_mod {f : Nat → Int} {n : Nat} (h : Good f n) : n % 4 = 0 := by
  by_cases h0 : n = 0
  · omega
  · have := grp_in (h ((n - 1) / 4) (by omega)).1; omega
theorem bad_not_good {f : Nat → Int} {n p : Nat} (h : Bad f n p) : ¬ Good f n := fun g => by
  obtain ⟨k, hk, _, h | h⟩ := h
  · have := (g k hk).1; omega
  · have := (g k hk).2; omega
theorem fp_nz {a b c d : Int} : (0 < fp a b c d → a ≠ 0) ∧ (1 < fp a b c d → b ≠ 0) ∧ (2 < fp a b c d → c ≠ 0) ∧ (3 < fp a b c d → d ≠ 0) := by
  refine ⟨?_, ?_, ?_, ?_⟩
  all_goals
    intro h e
    subst e
    unfold fp at h
    rw [val_zero] at h
    repeat' split at h
    all_goals omega
theorem bad_le {f : Nat → Int} {n p : Nat} (h : Bad f n p) : p ≤ n := by
  obtain ⟨k, hk, _, h | h⟩ := h
  · obtain ⟨h1, rfl⟩ := h
    obtain ⟨q0, q1, q2, q3⟩ := fp_nz (a := z f n (4 * k)) (b := z f n (4 * k + 1)) (c := z f n (4 * k + 2)) (d := z f n (4 * k + 3))
    change 0 < grp f n k → _ at q0
    change 1 < grp f n k → _ at q1
    change 2 < grp f n k → _ at q2
    by_cases hp : 4 * k + grp f n k ≤ n
    · exact hp
    · exfalso
      by_cases h2 : n = 4 * k + 1
      · exact q1 (by omega) (z_ge (by omega))
      · exact q2 (by omega) (z_ge (by omega))
  · omega

/-! Places. -/
/-- The first m + 1 signs begin some text. -/
def Beg (f : Nat → Int) (n m : Nat) : Prop := Full f n (m / 4) ∧ m % 4 + 1 ≤ grp f n (m / 4)
theorem Full.le {f : Nat → Int} {n k j : Nat} (h : Full f n k) (hj : j ≤ k) : Full f n j := fun i hi => h i (by omega)
theorem bad_beg {f : Nat → Int} {n p : Nat} (h : Bad f n p) : (∀ m, m < p → Beg f n m) ∧ (p < n → ¬ Beg f n p) ∧ (p = n → n % 4 ≠ 0) := by
  obtain ⟨k, hk, hF, h | h⟩ := h
  · obtain ⟨h1, rfl⟩ := h
    refine ⟨fun m hm => ⟨hF.le (by omega), ?_⟩, fun hp hb => ?_, fun hp => ?_⟩
    · by_cases e : m / 4 = k
      · rw [e]; omega
      · rw [(hF (m / 4) (by omega)).1]; omega
    · have := hb.2
      rw [show (4 * k + grp f n k) / 4 = k by omega] at this
      omega
    · omega
  · obtain ⟨h1, h2, h3, rfl⟩ := h
    refine ⟨fun m hm => ⟨hF.le (by omega), ?_⟩, fun hp hb => ?_, fun hp => ?_⟩
    · by_cases e : m / 4 = k
      · rw [e]; omega
      · rw [(hF (m / 4) (by omega)).1]; omega
    · have := (hb.1 k (by omega)).2
      omega
    · omega
theorem good_beg {f : Nat → Int} {n : Nat} (h : Good f n) : ∀ m, m < n → Beg f n m := fun m hm => by
  refine ⟨good_full h (by omega), ?_⟩
  rw [(h (m / 4) (by omega)).1]; omega
theorem fp_1 (a b c d : Int) : 1 ≤ fp a b c d ↔ 0 ≤ val a := by
  unfold fp
  repeat' split
  all_goals omega
theorem fp_2 (a b c d : Int) : 2 ≤ fp a b c d ↔ 0 ≤ val a ∧ 0 ≤ val b := by
  unfold fp
  repeat' split
  all_goals omega
theorem fp_3 (a b c d : Int) : 3 ≤ fp a b c d ↔ 0 ≤ val a ∧ 0 ≤ val b ∧ (0 ≤ val c ∨ (c = 61 ∧ val b % 16 = 0)) := by
  by_cases e : c = 61
  · subst e
    unfold fp
    rw [val_pad]
    repeat' split
    all_goals omega
  · unfold fp
    repeat' split
    all_goals omega
theorem fp_4 (a b c d : Int) : 4 ≤ fp a b c d ↔ 0 ≤ val a ∧ 0 ≤ val b ∧ ((0 ≤ val c ∧ 0 ≤ val d) ∨ (c = 61 ∧ val b % 16 = 0 ∧ d = 61) ∨ (0 ≤ val c ∧ d = 61 ∧ val c % 4 = 0)) := by
  have hc : c = 61 → val c = -1 := fun e => by subst e; exact val_pad
  have hd : d = 61 → val d = -1 := fun e => by subst e; exact val_pad
  unfold fp
  repeat' split
  all_goals omega
/-- How a group begins is told by the signs up to there. -/
theorem fp_local {a b c d a' b' c' d' : Int} (ha : a = a') (hb : 1 ≤ fp a b c d → b = b') (hc : 2 ≤ fp a b c d → c = c') (hd : 3 ≤ fp a b c d → d = d') : fp a' b' c' d' = fp a b c d := by
  subst ha
  by_cases h1 : 1 ≤ fp a b c d
  · have hb := hb h1
    subst hb
    by_cases h2 : 2 ≤ fp a b c d
    · have hc := hc h2
      subst hc
      by_cases h3 : 3 ≤ fp a b c d
      · rw [hd h3]
      · have g3 := fp_3 a b c d
        have g3' := fp_3 a b c d'
        have g2' := fp_2 a b c d'
        have g2 := fp_2 a b c d
        omega
    · have g2' := fp_2 a b c' d'
      have g2 := fp_2 a b c d
      have g1' := fp_1 a b c' d'
      have g1 := fp_1 a b c d
      omega
  · have g1' := fp_1 a b' c' d'
    have g1 := fp_1 a b c d
    omega
/-- A place stays, whatever stands behind the sign there. -/
theorem bad_stays {f f' : Nat → Int} {n n' p : Nat} (h : Bad f n p) (hp : p < n) (hn : p < n') (he : ∀ i, i ≤ p → f' i = f i) : Bad f' n' p := by
  have hz : ∀ i, i ≤ p → z f' n' i = z f n i := fun i hi => by rw [z_lt (by omega), z_lt (by omega), he i hi]
  have hgrp : ∀ j, 4 * j + 3 ≤ p → grp f' n' j = grp f n j ∧ cnt f' n' j = cnt f n j := fun j hj => by
    unfold grp cnt
    rw [hz _ (by omega), hz _ (by omega), hz _ (by omega), hz _ (by omega)]
    exact ⟨rfl, rfl⟩
  obtain ⟨k, hk, hF, h⟩ := h
  have hkp : 4 * k ≤ p := by omega
  refine ⟨k, by omega, fun j hj => ?_, ?_⟩
  · rw [(hgrp j (by omega)).1, (hgrp j (by omega)).2]; exact hF j hj
  · rcases h with ⟨h1, h2⟩ | ⟨h1, h2, h3, h4⟩
    · have e : grp f' n' k = grp f n k := by
        unfold grp at h2 ⊢
        exact fp_local (hz _ (by omega)).symm (fun h => (hz _ (by omega)).symm) (fun h => (hz _ (by omega)).symm) (fun h => (hz _ (by omega)).symm)
      exact Or.inl ⟨by omega, by omega⟩
    · obtain ⟨e1, e2⟩ := hgrp k (by omega)
      exact Or.inr ⟨by omega, by omega, by omega, h4⟩

/-! Ends that make a text. -/
def Ends (e : Nat → Int) (m : Nat) : Prop := (m = 1 ∧ e 0 = 65) ∨ (m = 2 ∧ e 0 = 65 ∧ e 1 = 65) ∨ (m = 3 ∧ e 0 = 65 ∧ e 1 = 65 ∧ e 2 = 65) ∨ (m = 1 ∧ e 0 = 61) ∨ (m = 2 ∧ e 0 = 61 ∧ e 1 = 61)
theorem val_A : val 65 = 0 := by decide
/-- A text whose end lacks has an end. -/
theorem bad_ends {f : Nat → Int} {n : Nat} (h : Bad f n n) :
    (∀ e : Nat → Int, e 0 = 65 → Good (cat f n e) (n + 1)) ∨ (∀ e : Nat → Int, e 0 = 65 → e 1 = 65 → Good (cat f n e) (n + 2)) ∨ (∀ e : Nat → Int, e 0 = 65 → e 1 = 65 → e 2 = 65 → Good (cat f n e) (n + 3)) ∨ (∀ e : Nat → Int, e 0 = 61 → Good (cat f n e) (n + 1)) := by
  obtain ⟨k, hk, hF, h | h⟩ := h
  rotate_left
  · omega
  obtain ⟨h1, h2⟩ := h
  have hfull : ∀ (e : Nat → Int) (m : Nat), Full (cat f n e) (n + m) k := fun e m j hj => by
    have := hF j hj
    unfold grp cnt at this ⊢
    rw [z_lt (i := 4 * j) (by omega), z_lt (i := 4 * j + 1) (by omega), z_lt (i := 4 * j + 2) (by omega), z_lt (i := 4 * j + 3) (by omega)] at this ⊢
    rw [cat_lt (by omega), cat_lt (by omega), cat_lt (by omega), cat_lt (by omega)]
    exact this
  have c0 : ∀ (e : Nat → Int) (m i : Nat), i < n → z (cat f n e) (n + m) i = f i := fun e m i hi => by rw [z_lt (by omega), cat_lt hi]
  have c1 : ∀ (e : Nat → Int) (m j : Nat), j < m → z (cat f n e) (n + m) (n + j) = e j := fun e m j hj => by rw [z_lt (by omega), cat_ge (by omega)]; congr 1; omega
  have hfin : ∀ (e : Nat → Int) (m : Nat), n + m = 4 * k + 4 → 4 ≤ grp (cat f n e) (n + m) k → Good (cat f n e) (n + m) := fun e m hm hg =>
    (good_of_last (hfull e m) (by have := grp_le (cat f n e) (n + m) k; omega) (by omega)).1
  by_cases g1 : grp f n k = 1
  · refine Or.inr (Or.inr (Or.inl fun e e0 e1 e2 => hfin e 3 (by omega) ?_))
    have q : 1 ≤ grp f n k := by omega
    unfold grp at q ⊢
    rw [fp_1, z_lt (by omega)] at q
    rw [c0 _ _ _ (by omega), show 4 * k + 1 = n + 0 by omega, show 4 * k + 2 = n + 1 by omega, show 4 * k + 3 = n + 2 by omega, c1 _ _ _ (by omega), c1 _ _ _ (by omega), c1 _ _ _ (by omega), fp_4, e0, e1, e2, val_A]
    exact ⟨q, by omega, Or.inl ⟨by omega, by omega⟩⟩
  by_cases g2 : grp f n k = 2
  · refine Or.inr (Or.inl fun e e0 e1 => hfin e 2 (by omega) ?_)
    have q : 2 ≤ grp f n k := by omega
    unfold grp at q ⊢
    rw [fp_2, z_lt (by omega), z_lt (by omega)] at q
    rw [c0 _ _ _ (by omega), c0 _ _ _ (by omega), show 4 * k + 2 = n + 0 by omega, show 4 * k + 3 = n + 1 by omega, c1 _ _ _ (by omega), c1 _ _ _ (by omega), fp_4, e0, e1, val_A]
    exact ⟨q.1, q.2, Or.inl ⟨by omega, by omega⟩⟩
  have g3 : grp f n k = 3 := by omega
  have q : 3 ≤ grp f n k := by omega
  unfold grp at q
  rw [fp_3, z_lt (by omega), z_lt (by omega), z_lt (by omega)] at q
  obtain ⟨q0, q1, q2 | q2⟩ := q
  · refine Or.inl fun e e0 => hfin e 1 (by omega) ?_
    unfold grp
    rw [c0 _ _ _ (by omega), c0 _ _ _ (by omega), c0 _ _ _ (by omega), show 4 * k + 3 = n + 0 by omega, c1 _ _ _ (by omega), fp_4, e0, val_A]
    exact ⟨q0, q1, Or.inl ⟨q2, by omega⟩⟩
  · refine Or.inr (Or.inr (Or.inr fun e e0 => hfin e 1 (by omega) ?_))
    unfold grp
    rw [c0 _ _ _ (by omega), c0 _ _ _ (by omega), c0 _ _ _ (by omega), show 4 * k + 3 = n + 0 by omega, c1 _ _ _ (by omega), fp_4, e0]
    exact ⟨q0, q1, Or.inr (Or.inl ⟨q2.1, q2.2, rfl⟩)⟩
end Go.Proofs.YthemaacfjmcbnaaDoor.B6
