/-
  That the reference's way to decode comes to what the program's does: plain mathematics on bytes.
-/
import Derived.Test.YtaejoleijmihhaaUtfMath
import Derived.Test.YtaejoleijmihhaaSl
namespace Go.Proofs.Ytaejoleijmihhaa.Utf

theorem lo2_eq (c : Int) : (c = 224 → lo2 c = 160) ∧ (c = 240 → lo2 c = 144) ∧ (c ≠ 224 → c ≠ 240 → lo2 c = 128) := by
  unfold lo2
  refine ⟨fun h => by rw [if_pos h], fun h => by rw [if_neg (by omega), if_pos h], fun h h' => by rw [if_neg h, if_neg h']⟩
theorem hi2_eq (c : Int) : (c = 237 → hi2 c = 159) ∧ (c = 244 → hi2 c = 143) ∧ (c ≠ 237 → c ≠ 244 → hi2 c = 191) := by
  unfold hi2
  refine ⟨fun h => by rw [if_pos h], fun h => by rw [if_neg (by omega), if_pos h], fun h h' => by rw [if_neg h, if_neg h']⟩

theorem fpN_full {f : Nat → Int} {k : Nat} (hk : k ≤ 4) : fpN f k = k ↔ ∀ j, 1 ≤ j → j < k → okAt f j := by
  have h := fpN_FP f k hk
  constructor
  · intro e
    rw [e] at h
    exact h.2.1
  · intro e
    exact (fp_eq f k k hk ⟨Nat.le_refl _, e, fun a => absurd a (by omega)⟩).symm

/-- n bytes are there, as many as the first one asks for: they are a code point's, or the first one is a byte of none. -/
theorem dec_full {f : Nat → Int} {m n : Nat} {fin : Bool} (h1 : 1 ≤ n) (h4 : n ≤ 4) (hm : n ≤ m) (hs : sizeOf (f 0) = n) :
    ((∀ j, 1 ≤ j → j < n → okAt f j) → dec f m fin = (jn (p0 n (f 0)) f (n - 1), (n : Int), false)) ∧ (¬ (∀ j, 1 ≤ j → j < n → okAt f j) → dec f m fin = (-1, 1, false)) := by
  have e : min n m = n := by omega
  have hle := fpN_le f n
  constructor
  · intro h
    exact dec_yes (by omega) hs (by omega) (by rw [e]; exact (fpN_full h4).2 h)
  · intro h
    rw [← fpN_full h4] at h
    exact dec_no (by omega) hs (by rw [e]; exact fun x => h x.2) (by rw [e]; intro x; have := x.1; omega)
theorem dec_zero {f : Nat → Int} {m : Nat} {fin : Bool} (h1 : 1 ≤ m) (hs : sizeOf (f 0) = 0) : dec f m fin = (-1, 1, false) := by
  have e : fpN f (min 0 m) = 0 := by rw [Nat.zero_min]; rfl
  exact dec_no (s := 0) (by omega) hs (by omega) (by rw [e]; intro x; have := x.1; omega)
/-- Fewer bytes are there than the first one asks for. -/
theorem dec_part {f : Nat → Int} {m n : Nat} (h1 : 1 ≤ m) (h4 : n ≤ 4) (hm : m < n) (hs : sizeOf (f 0) = n) :
    ((∀ j, 1 ≤ j → j < m → okAt f j) → dec f m false = (-1, 0, true)) ∧ (¬ (∀ j, 1 ≤ j → j < m → okAt f j) → dec f m false = (-1, 1, false)) ∧ dec f m true = (-1, 1, false) := by
  have e : min n m = m := by omega
  have hle := fpN_le f m
  have hA : ¬ (0 < n ∧ fpN f (min n m) = n) := by rw [e]; omega
  refine ⟨fun h => ?_, fun h => ?_, ?_⟩
  · exact dec_more (by omega) hs hA (by rw [e]; exact (fpN_full (by omega)).2 h)
  · rw [← fpN_full (by omega)] at h
    exact dec_no (by omega) hs hA (by rw [e]; exact fun x => h x.1)
  · exact dec_no (by omega) hs hA (by simp)

theorem isPt_of {q : Int} (h0 : 0 ≤ q) (h1 : q ≤ 1114111) (h2 : q < 55296 ∨ 57343 < q) : isPt q = true := (isPt_iff q).2 ⟨h0, h1, h2⟩
def Fit (f : Nat → Int) (n : Nat) (q : Int) : Prop := isPt q = true ∧ encN q = n ∧ ∀ i, i < n → encF q i = f i
def WR (f : Nat → Int) (n : Nat) (r : Int) : Prop := ∃ q, BR f n q ∧ (Fit f n q ∧ r = q ∨ ¬ Fit f n q ∧ r = -1)
theorem encN_lt {q : Int} : (encN q = 1 → q < 128) ∧ (encN q = 2 → 128 ≤ q ∧ q < 2048) ∧ (encN q = 3 → 2048 ≤ q ∧ q < 65536) ∧ (encN q = 4 → 65536 ≤ q) := by
  by_cases a : q < 128
  · rw [(enc_1 a).1]; omega
  · by_cases b : q < 2048
    · rw [(enc_2 (by omega) b).1]; omega
    · by_cases c : q < 65536
      · rw [(enc_3 (by omega) c).1]; omega
      · rw [(enc_4 (by omega)).1]; omega

theorem fit1 {f : Nat → Int} (h0 : 0 ≤ f 0) (h : f 0 < 128) : Fit f 1 (f 0) := by
  refine ⟨isPt_of h0 (by omega) (by omega), (enc_1 h).1, fun i hi => ?_⟩
  obtain rfl : i = 0 := by omega
  unfold encF; rw [(enc_1 h).2]; rfl
theorem fit2 {f : Nat → Int} {q : Int} (hq : q = 64 * (f 0 - 192) + f 1 - 128) (h0 : 192 ≤ f 0) (h0' : f 0 < 224) (h1 : 128 ≤ f 1) (h1' : f 1 ≤ 191) : Fit f 2 q ↔ 194 ≤ f 0 := by
  constructor
  · intro h
    have := (encN_lt (q := q)).2.1 h.2.1
    omega
  · intro h
    have e := enc_2 (p := q) (by omega) (by omega)
    refine ⟨isPt_of (by omega) (by omega) (by omega), e.1, fun i hi => ?_⟩
    unfold encF; rw [e.2]
    obtain rfl | rfl : i = 0 ∨ i = 1 := by omega
    · show 192 + q / 64 = _; omega
    · show 128 + q % 64 = _; omega
theorem fit3 {f : Nat → Int} {q : Int} (hq : q = 64 * (64 * (f 0 - 224) + f 1 - 128) + f 2 - 128) (h0 : 224 ≤ f 0) (h0' : f 0 < 240) (h1 : 128 ≤ f 1) (h1' : f 1 ≤ 191) (h2 : 128 ≤ f 2) (h2' : f 2 ≤ 191) :
    Fit f 3 q ↔ lo2 (f 0) ≤ f 1 ∧ f 1 ≤ hi2 (f 0) := by
  have l := lo2_eq (f 0)
  have g := hi2_eq (f 0)
  constructor
  · intro h
    have a := (encN_lt (q := q)).2.2.1 h.2.1
    have b := (isPt_iff q).1 h.1
    omega
  · intro h
    have e := enc_3 (p := q) (by omega) (by omega)
    refine ⟨isPt_of (by omega) (by omega) (by omega), e.1, fun i hi => ?_⟩
    unfold encF; rw [e.2]
    obtain rfl | rfl | rfl : i = 0 ∨ i = 1 ∨ i = 2 := by omega
    · show 224 + q / 4096 = _; omega
    · show 128 + q / 64 % 64 = _; omega
    · show 128 + q % 64 = _; omega
theorem fit4 {f : Nat → Int} {q : Int} (hq : q = 64 * (64 * (64 * (f 0 - 240) + f 1 - 128) + f 2 - 128) + f 3 - 128) (h0 : 240 ≤ f 0) (h0' : f 0 < 248) (h1 : 128 ≤ f 1) (h1' : f 1 ≤ 191) (h2 : 128 ≤ f 2) (h2' : f 2 ≤ 191) (h3 : 128 ≤ f 3) (h3' : f 3 ≤ 191) :
    Fit f 4 q ↔ f 0 < 245 ∧ lo2 (f 0) ≤ f 1 ∧ f 1 ≤ hi2 (f 0) := by
  have l := lo2_eq (f 0)
  have g := hi2_eq (f 0)
  constructor
  · intro h
    have a := (encN_lt (q := q)).2.2.2 h.2.1
    have b := (isPt_iff q).1 h.1
    omega
  · intro h
    have e := enc_4 (p := q) (by omega)
    refine ⟨isPt_of (by omega) (by omega) (by omega), e.1, fun i hi => ?_⟩
    unfold encF; rw [e.2]
    obtain rfl | rfl | rfl | rfl : i = 0 ∨ i = 1 ∨ i = 2 ∨ i = 3 := by omega
    · show 240 + q / 262144 = _; omega
    · show 128 + q / 4096 % 64 = _; omega
    · show 128 + q / 64 % 64 = _; omega
    · show 128 + q % 64 = _; omega

/-- All of a code point's bytes behind the first one may be. -/
theorem ok_all {f : Nat → Int} {n : Nat} (h2 : 2 ≤ n) : (∀ j, 1 ≤ j → j < n → okAt f j) ↔ (lo2 (f 0) ≤ f 1 ∧ f 1 ≤ hi2 (f 0)) ∧ ∀ j, 2 ≤ j → j < n → tail f j := by
  constructor
  · intro h
    exact ⟨okAt_one.1 (h 1 (by omega) (by omega)), fun j a b => (okAt_more (by omega)).1 (h j (by omega) b)⟩
  · rintro ⟨h, g⟩ j a b
    by_cases e : j = 1
    · subst e; exact okAt_one.2 h
    · exact (okAt_more e).2 (g j (by omega) b)
theorem tail_of_ok {f : Nat → Int} (h : lo2 (f 0) ≤ f 1 ∧ f 1 ≤ hi2 (f 0)) : tail f 1 := by
  have l := lo2_eq (f 0)
  have g := hi2_eq (f 0)
  unfold tail
  omega

end Go.Proofs.Ytaejoleijmihhaa.Utf
