/-
  Numbers and their digits: plain mathematics, over the kit's numerals.
-/
import Derived.Test.YthemaacfjmcbnaaDoorTs
import Derived.Lib.ItoaLen
namespace Go.Proofs.YthemaacfjmcbnaaDoor.Ln
open Go.Lib (decDigits itoa)

/-- What the first k bytes tell, each as a digit. -/
def vF (f : Nat → Int) : Nat → Int
  | 0 => 0
  | k + 1 => 10 * vF f k + (f k - 48)
def Dg (f : Nat → Int) (n : Nat) : Prop := ∀ i, i < n → 48 ≤ f i ∧ f i ≤ 57
/-- The bytes are a number. -/
def Num (f : Nat → Int) (n : Nat) : Prop := 0 < n ∧ n ≤ 7 ∧ ¬ (1 < n ∧ f 0 = 48) ∧ Dg f n
theorem Dg.less {f : Nat → Int} {n k : Nat} (h : Dg f n) (hk : k ≤ n) : Dg f k := fun i hi => h i (by omega)
theorem vF_bd {f : Nat → Int} : ∀ {k : Nat}, Dg f k → 0 ≤ vF f k ∧ vF f k < (10 ^ k : Nat)
  | 0, _ => by simp [vF]
  | k + 1, h => by
    have ih := vF_bd (h.less (Nat.le_succ k))
    have hk := h k (by omega)
    have e : (10 ^ (k + 1) : Nat) = 10 * 10 ^ k := by rw [Nat.pow_succ, Nat.mul_comm]
    rw [e]
    unfold vF
    generalize 10 ^ k = p at *
    omega
theorem vF_bd7 {f : Nat → Int} {k : Nat} (h : Dg f k) (hk : k ≤ 7) : 0 ≤ vF f k ∧ vF f k ≤ 9999999 := by
  have h1 := vF_bd h
  have h2 : 10 ^ k ≤ 10 ^ 7 := Nat.pow_le_pow_right (by decide) hk
  generalize 10 ^ k = p at *
  omega
theorem vF_pos {f : Nat → Int} : ∀ {k : Nat}, Dg f (k + 1) → f 0 ≠ 48 → 1 ≤ vF f (k + 1)
  | 0, h, h0 => by
    have := h 0 (by omega)
    simp [vF]; omega
  | k + 1, h, h0 => by
    have ih := vF_pos (h.less (Nat.le_succ _)) h0
    have hk := h (k + 1) (by omega)
    rw [vF]
    omega

/-- The bytes of a text by places. -/
def gF (l : List UInt8) (i : Nat) : Int := ((l.getD i 0).toNat : Nat)
theorem gF_snoc_lt {l : List UInt8} {b : UInt8} {i : Nat} (h : i < l.length) : gF (l ++ [b]) i = gF l i := by simp [gF, h, List.getElem?_append_left]
theorem gF_snoc_eq (l : List UInt8) (b : UInt8) : gF (l ++ [b]) l.length = b.toNat := by simp [gF]
theorem vF_congr {f g : Nat → Int} : ∀ {k : Nat}, (∀ i, i < k → f i = g i) → vF f k = vF g k
  | 0, _ => rfl
  | k + 1, h => by rw [vF, vF, vF_congr (fun i hi => h i (by omega)), h k (by omega)]
theorem Dg.congr {f g : Nat → Int} {k : Nat} (h : Dg f k) (e : ∀ i, i < k → f i = g i) : Dg g k := fun i hi => by rw [← e i hi]; exact h i hi

theorem byte_dig {d : Nat} (h : d < 10) : (UInt8.ofNat (48 + d)).toNat = 48 + d := by
  rw [UInt8.toNat_ofNat']; omega
theorem dec_small {u : Nat} (h : u < 10) : decDigits u = [UInt8.ofNat (48 + u)] := by rw [decDigits, dif_pos h]
theorem dec_big {u : Nat} (h : ¬ u < 10) : decDigits u = decDigits (u / 10) ++ [UInt8.ofNat (48 + u % 10)] := by rw [decDigits, dif_neg h]
theorem dec_pos (u : Nat) : 0 < (decDigits u).length := by
  by_cases h : u < 10
  · rw [dec_small h]; simp
  · rw [dec_big h]; simp
theorem dec_dg : ∀ (u : Nat), Dg (gF (decDigits u)) (decDigits u).length ∧ vF (gF (decDigits u)) (decDigits u).length = u := by
  intro u
  induction u using Nat.strongRecOn with
  | ind u ih =>
    by_cases h : u < 10
    · rw [dec_small h]
      have e0 : gF [UInt8.ofNat (48 + u)] 0 = 48 + u := by
        show (((UInt8.ofNat (48 + u)).toNat : Nat) : Int) = _
        rw [byte_dig h]; omega
      constructor
      · intro i hi
        obtain rfl : i = 0 := by simpa using hi
        rw [e0]; omega
      · show 10 * 0 + (gF [UInt8.ofNat (48 + u)] 0 - 48) = (u : Int)
        rw [e0]; omega
    · obtain ⟨i1, i2⟩ := ih (u / 10) (by omega)
      have hd : u % 10 < 10 := Nat.mod_lt _ (by decide)
      rw [dec_big h]
      have el : (decDigits (u / 10) ++ [UInt8.ofNat (48 + u % 10)]).length = (decDigits (u / 10)).length + 1 := by simp
      have elast : gF (decDigits (u / 10) ++ [UInt8.ofNat (48 + u % 10)]) (decDigits (u / 10)).length = 48 + (u % 10 : Nat) := by rw [gF_snoc_eq, byte_dig hd]; omega
      rw [el]
      constructor
      · intro i hi
        by_cases e : i < (decDigits (u / 10)).length
        · rw [gF_snoc_lt e]; exact i1 i e
        · obtain rfl : i = (decDigits (u / 10)).length := by omega
          rw [elast]; omega
      · rw [vF, vF_congr (g := gF (decDigits (u / 10))) (fun i hi => gF_snoc_lt hi), i2, elast]
        omega
theorem dec_head : ∀ (u : Nat), ¬ (1 < (decDigits u).length ∧ gF (decDigits u) 0 = 48) := by
  intro u
  induction u using Nat.strongRecOn with
  | ind u ih =>
    by_cases h : u < 10
    · rw [dec_small h]; simp
    · rintro ⟨_, h2⟩
      have hp := dec_pos (u / 10)
      have h3 : gF (decDigits (u / 10)) 0 = 48 := by rw [dec_big h, gF_snoc_lt hp] at h2; exact h2
      by_cases h10 : u / 10 < 10
      · rw [dec_small h10] at h3
        have : (((UInt8.ofNat (48 + u / 10)).toNat : Nat) : Int) = 48 := h3
        rw [byte_dig h10] at this
        omega
      · exact ih (u / 10) (by omega) ⟨by rw [dec_big h10]; have := dec_pos (u / 10 / 10); simp; omega, h3⟩
theorem dec_len : ∀ (k u : Nat), (decDigits u).length ≤ k + 1 ↔ u < 10 ^ (k + 1)
  | 0, u => by
    have e : (10 ^ (0 + 1) : Nat) = 10 := rfl
    rw [e]
    by_cases h : u < 10
    · rw [dec_small h]
      simp; omega
    · have hp := dec_pos (u / 10)
      rw [dec_big h, List.length_append, List.length_singleton]
      omega
  | k + 1, u => by
    have ih := dec_len k (u / 10)
    have e : (10 ^ (k + 1 + 1) : Nat) = 10 * 10 ^ (k + 1) := by rw [Nat.pow_succ, Nat.mul_comm]
    have e0 : 0 < 10 ^ (k + 1) := Nat.pow_pos (by decide)
    rw [e]
    generalize 10 ^ (k + 1) = p at *
    by_cases h : u < 10
    · rw [dec_small h]
      simp; omega
    · have hp := dec_pos (u / 10)
      rw [dec_big h, List.length_append, List.length_singleton]
      omega
/-- Digits of which the first is 0 only if it is the one digit are the numeral of what they tell. -/
theorem dec_of : ∀ (l : List UInt8), l ≠ [] → Dg (gF l) l.length → ¬ (1 < l.length ∧ gF l 0 = 48) → decDigits (vF (gF l) l.length).toNat = l := by
  intro l
  induction hl : l.length generalizing l with
  | zero => intro h0; exact absurd (List.eq_nil_of_length_eq_zero hl) h0
  | succ n ih =>
    intro h0 hd hh
    obtain ⟨r, b, rfl⟩ : ∃ r b, l = r ++ [b] := ⟨_, _, (List.dropLast_concat_getLast h0).symm⟩
    have hr : r.length = n := by simpa using hl
    subst hr
    have hb := hd r.length (by omega)
    rw [gF_snoc_eq] at hb
    have hbd : b = UInt8.ofNat (48 + (b.toNat - 48)) := by apply UInt8.toNat_inj.1; rw [byte_dig (by omega)]; omega
    have hrd : Dg (gF r) r.length := (hd.less (Nat.le_succ _)).congr (fun i hi => gF_snoc_lt hi)
    have hv : vF (gF (r ++ [b])) (r.length + 1) = 10 * vF (gF r) r.length + (b.toNat - 48) := by rw [vF, vF_congr (g := gF r) (fun i hi => gF_snoc_lt hi), gF_snoc_eq]
    rw [hv]
    by_cases hr0 : r = []
    · subst hr0
      simp only [List.length_nil, vF, List.nil_append]
      rw [show (10 * (0 : Int) + ((b.toNat : Int) - 48)).toNat = b.toNat - 48 by omega, dec_small (by omega), ← hbd]
    · obtain ⟨m, hm⟩ : ∃ m, r.length = m + 1 := ⟨r.length - 1, by have := List.length_pos_iff.2 hr0; omega⟩
      have hf0 : gF r 0 ≠ 48 := fun e => hh ⟨by omega, by rw [gF_snoc_lt (by omega)]; exact e⟩
      have h1 : 1 ≤ vF (gF r) r.length := by rw [hm] at hrd ⊢; exact vF_pos hrd hf0
      have hi := ih r rfl hr0 hrd (fun h => hf0 h.2)
      rw [dec_big (by omega), show (10 * vF (gF r) r.length + ((b.toNat : Int) - 48)).toNat / 10 = (vF (gF r) r.length).toNat by omega, hi, show (10 * vF (gF r) r.length + ((b.toNat : Int) - 48)).toNat % 10 = b.toNat - 48 by omega, ← hbd]

/-- Which numerals are numbers. -/
theorem num_dec {u : Nat} (h : u ≤ 9999999) : Num (gF (decDigits u)) (decDigits u).length ∧ vF (gF (decDigits u)) (decDigits u).length = u :=
  ⟨⟨dec_pos u, (dec_len 6 u).2 (by omega), dec_head u, (dec_dg u).1⟩, (dec_dg u).2⟩
theorem num_dec_not {u : Nat} (h : ¬ u ≤ 9999999) : ¬ Num (gF (decDigits u)) (decDigits u).length := fun hn =>
  h (by have := (dec_len 6 u).1 hn.2.1; omega)
theorem num_itoa {n : Int} (h0 : 0 ≤ n) (h1 : n ≤ 9999999) : Num (gF (itoa n)) (itoa n).length ∧ vF (gF (itoa n)) (itoa n).length = n := by
  obtain ⟨u, rfl⟩ := Int.eq_ofNat_of_zero_le h0
  rw [Go.Lib.itoa_nonneg]
  exact num_dec (by omega)
theorem num_itoa_not {n : Int} (h : ¬ (0 ≤ n ∧ n ≤ 9999999)) : ¬ Num (gF (itoa n)) (itoa n).length := by
  by_cases h0 : 0 ≤ n
  · obtain ⟨u, rfl⟩ := Int.eq_ofNat_of_zero_le h0
    rw [Go.Lib.itoa_nonneg]
    exact num_dec_not (by omega)
  · intro hn
    have hd := hn.2.2.2 0 hn.1
    unfold itoa at hd
    rw [if_pos (by omega)] at hd
    simp [gF] at hd
end Go.Proofs.YthemaacfjmcbnaaDoor.Ln
