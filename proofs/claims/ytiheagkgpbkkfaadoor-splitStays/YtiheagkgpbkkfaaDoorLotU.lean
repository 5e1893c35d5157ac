/-
  Several texts in one: UtfMath, UtfMathB, UtfMathC, UtfMathD, UtfMathE, UtfMathF.
-/
import Derived.Test.YtiheagkgpbkkfaaDoorLotG
/-
  Plain functions on bytes as integers, for the statements on package utf: no program is named here.
-/
namespace Go.Proofs.YtiheagkgpbkkfaaDoor.Utf

/-- How many bytes a code point has that begins with this byte; 0, if none does. -/
def sizeOf (c : Int) : Int := if c < 128 then 1 else if c < 194 then 0 else if c < 224 then 2 else if c < 240 then 3 else if c < 245 then 4 else 0
def lo2 (c : Int) : Int := if c = 224 then 160 else if c = 240 then 144 else 128
def hi2 (c : Int) : Int := if c = 237 then 159 else if c = 244 then 143 else 191
def isPt (n : Int) : Bool := decide (0 ≤ n) && decide (n ≤ 1114111) && (decide (n < 55296) || decide (57343 < n))
/-- The reference's size of a first byte. -/
def long (c : Int) : Int := if c < 128 then 1 else if 192 ≤ c ∧ c < 224 then 2 else if 224 ≤ c ∧ c < 240 then 3 else if 240 ≤ c ∧ c < 248 then 4 else 0

theorem sizeOf_1 {c : Int} (h : c < 128) : sizeOf c = 1 := by unfold sizeOf; rw [if_pos h]
theorem sizeOf_0 {c : Int} (h : 128 ≤ c) (h' : c < 194) : sizeOf c = 0 := by unfold sizeOf; rw [if_neg (by omega), if_pos h']
theorem sizeOf_2 {c : Int} (h : 194 ≤ c) (h' : c < 224) : sizeOf c = 2 := by unfold sizeOf; rw [if_neg (by omega), if_neg (by omega), if_pos h']
theorem sizeOf_3 {c : Int} (h : 224 ≤ c) (h' : c < 240) : sizeOf c = 3 := by unfold sizeOf; rw [if_neg (by omega), if_neg (by omega), if_neg (by omega), if_pos h']
theorem sizeOf_4 {c : Int} (h : 240 ≤ c) (h' : c < 245) : sizeOf c = 4 := by unfold sizeOf; rw [if_neg (by omega), if_neg (by omega), if_neg (by omega), if_neg (by omega), if_pos h']
theorem sizeOf_5 {c : Int} (h : 245 ≤ c) : sizeOf c = 0 := by unfold sizeOf; rw [if_neg (by omega), if_neg (by omega), if_neg (by omega), if_neg (by omega), if_neg (by omega)]

/-- Bytes are told by a function: f i is the byte at place i. -/
def lo (f : Nat → Int) (j : Nat) : Int := if j = 1 then lo2 (f 0) else 128
def hi (f : Nat → Int) (j : Nat) : Int := if j = 1 then hi2 (f 0) else 191
def okAt (f : Nat → Int) (j : Nat) : Prop := lo f j ≤ f j ∧ f j ≤ hi f j
/-- k is how many first bytes are a first part of a code point's n bytes. -/
def FP (f : Nat → Int) (n k : Nat) : Prop := k ≤ n ∧ (∀ j, 1 ≤ j → j < k → okAt f j) ∧ (k < n → 1 ≤ k ∧ ¬ okAt f k)

theorem okAt_one {f : Nat → Int} : okAt f 1 ↔ lo2 (f 0) ≤ f 1 ∧ f 1 ≤ hi2 (f 0) := by simp [okAt, lo, hi]
theorem okAt_more {f : Nat → Int} {j : Nat} (h : j ≠ 1) : okAt f j ↔ 128 ≤ f j ∧ f j ≤ 191 := by simp [okAt, lo, hi, h]
theorem fp_stop1 {f : Nat → Int} {m : Nat} (hm : 1 < m) (h : f 1 < lo2 (f 0) ∨ hi2 (f 0) < f 1) : FP f m 1 :=
  ⟨by omega, fun j a b => absurd b (by omega), fun _ => ⟨by omega, fun o => by rw [okAt_one] at o; omega⟩⟩
theorem fp_stop {f : Nat → Int} {m k : Nat} (h1 : 1 ≤ k) (hm : k < m) (hk : k ≠ 1) (hr : ∀ j, 1 ≤ j → j < k → okAt f j) (h : f k < 128 ∨ 191 < f k) : FP f m k :=
  ⟨by omega, hr, fun _ => ⟨by omega, fun o => by rw [okAt_more hk] at o; omega⟩⟩
theorem ok_snoc {f : Nat → Int} {k : Nat} (hr : ∀ j, 1 ≤ j → j < k → okAt f j) (h : okAt f k) : ∀ j, 1 ≤ j → j < k + 1 → okAt f j := fun j a b => by
  by_cases e : j = k
  · subst e; exact h
  · exact hr j a (by omega)
theorem fp_end {f : Nat → Int} {m k : Nat} (hk : m ≤ k) (hr : ∀ j, 1 ≤ j → j < k → okAt f j) : FP f m m :=
  ⟨Nat.le_refl _, fun j a b => hr j a (by omega), fun h => absurd h (by omega)⟩

/-- A code point's bits: p ahead, then six of each of the k bytes behind the first one. -/
def jn (p : Int) (f : Nat → Int) : Nat → Int
  | 0 => p
  | k + 1 => 64 * jn p f k + f (k + 1) % 64
/-- What the first of n bytes tells. -/
def p0 (n : Nat) (c : Int) : Int := if n = 1 then c else if n = 2 then c % 32 else if n = 3 then c % 16 else c % 8
theorem p0_bd (n : Nat) (c : Int) (h0 : 0 ≤ c) (h1 : c ≤ 255) : 0 ≤ p0 n c ∧ p0 n c ≤ 255 := by
  unfold p0; split
  · omega
  · split
    · omega
    · split <;> omega
theorem jn_bd (p : Int) (f : Nat → Int) (h0 : 0 ≤ p) (h1 : p ≤ 255) : ∀ k, k ≤ 3 → 0 ≤ jn p f k ∧ jn p f k ≤ 67108863
  | 0, _ => by simp only [jn]; omega
  | 1, _ => by simp only [jn]; omega
  | 2, _ => by simp only [jn]; omega
  | 3, _ => by simp only [jn]; omega
  | k + 4, h => absurd h (by omega)

def okB (f : Nat → Int) (j : Nat) : Bool := decide (lo f j ≤ f j) && decide (f j ≤ hi f j)
theorem okB_iff (f : Nat → Int) (j : Nat) : okB f j = true ↔ okAt f j := by simp [okB, okAt]
/-- How many first bytes are a first part of n bytes: n is at most 4. -/
def fpN (f : Nat → Int) (n : Nat) : Nat :=
  if n ≤ 1 then n else if okB f 1 = false then 1 else if n = 2 then 2 else if okB f 2 = false then 2 else if n = 3 then 3 else if okB f 3 = false then 3 else 4
theorem fp_eq (f : Nat → Int) (n k : Nat) (hn : n ≤ 4) (h : FP f n k) : k = fpN f n := by
  obtain ⟨h1, h2, h3⟩ := h
  have b : ∀ j, okB f j = false ↔ ¬ okAt f j := fun j => by rw [← okB_iff]; simp
  simp only [← b] at h3
  simp only [← okB_iff] at h2
  have g1 := h2 1; have g2 := h2 2; have g3 := h2 3
  clear h2 b
  unfold fpN
  (obtain rfl | rfl | rfl | rfl | rfl : n = 0 ∨ n = 1 ∨ n = 2 ∨ n = 3 ∨ n = 4 := by omega) <;>
    (obtain rfl | rfl | rfl | rfl | rfl : k = 0 ∨ k = 1 ∨ k = 2 ∨ k = 3 ∨ k = 4 := by omega) <;>
    cases c1 : okB f 1 <;> cases c2 : okB f 2 <;> cases c3 : okB f 3 <;> first | rfl | (exfalso; simp_all; done) | simp_all
theorem fpN_le (f : Nat → Int) (n : Nat) : fpN f n ≤ n := by
  unfold fpN
  split
  · omega
  · split
    · omega
    · split
      · omega
      · split
        · omega
        · split
          · omega
          · split <;> omega
/-- With which code point n bytes begin: the point, how many bytes, whether more are needed. -/
def dec (f : Nat → Int) (n : Nat) (fin : Bool) : Int × Int × Bool :=
  if n = 0 then (-1, 0, true) else
    if 0 < (sizeOf (f 0)).toNat ∧ fpN f (min (sizeOf (f 0)).toNat n) = (sizeOf (f 0)).toNat then (jn (p0 (sizeOf (f 0)).toNat (f 0)) f ((sizeOf (f 0)).toNat - 1), sizeOf (f 0), false)
    else if fpN f (min (sizeOf (f 0)).toNat n) = n ∧ fin = false then (-1, 0, true) else (-1, 1, false)
theorem dec_yes {f : Nat → Int} {n s : Nat} {fin : Bool} (hn : 0 < n) (hs : sizeOf (f 0) = s) (h0 : 0 < s) (hk : fpN f (min s n) = s) : dec f n fin = (jn (p0 s (f 0)) f (s - 1), (s : Int), false) := by
  unfold dec
  rw [if_neg (by omega), hs, Int.toNat_natCast, if_pos ⟨h0, hk⟩]
theorem dec_more {f : Nat → Int} {n s : Nat} (hn : 0 < n) (hs : sizeOf (f 0) = s) (h : ¬ (0 < s ∧ fpN f (min s n) = s)) (hk : fpN f (min s n) = n) : dec f n false = (-1, 0, true) := by
  unfold dec
  rw [if_neg (by omega), hs, Int.toNat_natCast, if_neg h, if_pos ⟨hk, rfl⟩]
theorem dec_no {f : Nat → Int} {n s : Nat} {fin : Bool} (hn : 0 < n) (hs : sizeOf (f 0) = s) (h : ¬ (0 < s ∧ fpN f (min s n) = s)) (hk : ¬ (fpN f (min s n) = n ∧ fin = false)) : dec f n fin = (-1, 1, false) := by
  unfold dec
  rw [if_neg (by omega), hs, Int.toNat_natCast, if_neg h, if_neg hk]
theorem sizeOf_bd (c : Int) : 0 ≤ sizeOf c ∧ sizeOf c ≤ 4 := by
  unfold sizeOf
  split
  · omega
  · split
    · omega
    · split
      · omega
      · split
        · omega
        · split <;> omega

theorem fpN_FP (f : Nat → Int) (n : Nat) (hn : n ≤ 4) : FP f n (fpN f n) := by
  have h : ∀ j, okB f j = false → ¬ okAt f j := fun j e o => by rw [← okB_iff, e] at o; cases o
  unfold fpN
  by_cases h1 : n ≤ 1
  · rw [if_pos h1]
    exact ⟨Nat.le_refl _, fun j a b => absurd b (by omega), fun a => absurd a (by omega)⟩
  · rw [if_neg h1]
    cases c1 : okB f 1
    · rw [if_pos rfl]
      exact ⟨by omega, fun j a b => absurd b (by omega), fun _ => ⟨by omega, h 1 c1⟩⟩
    · rw [if_neg (by simp)]
      have o1 : ∀ j, 1 ≤ j → j < 2 → okAt f j := fun j a b => by
        obtain rfl : j = 1 := by omega
        exact (okB_iff f 1).1 c1
      by_cases h2 : n = 2
      · subst h2; rw [if_pos rfl]
        exact ⟨by omega, o1, fun a => absurd a (by omega)⟩
      · rw [if_neg h2]
        cases c2 : okB f 2
        · rw [if_pos rfl]
          exact ⟨by omega, o1, fun _ => ⟨by omega, h 2 c2⟩⟩
        · rw [if_neg (by simp)]
          have o2 := ok_snoc o1 ((okB_iff f 2).1 c2)
          by_cases h3 : n = 3
          · subst h3; rw [if_pos rfl]
            exact ⟨by omega, o2, fun a => absurd a (by omega)⟩
          · rw [if_neg h3]
            obtain rfl : n = 4 := by omega
            cases c3 : okB f 3
            · rw [if_pos rfl]
              exact ⟨by omega, o2, fun _ => ⟨by omega, h 3 c3⟩⟩
            · rw [if_neg (by simp)]
              exact ⟨by omega, ok_snoc o2 ((okB_iff f 3).1 c3), fun a => absurd a (by omega)⟩

/-- What two rows have in common at the front. -/
theorem okAt_congr {f g : Nat → Int} {n j : Nat} (h : ∀ i, i < n → f i = g i) (hj : j < n) : okAt f j ↔ okAt g j := by
  unfold okAt lo hi
  rw [h j hj, h 0 (by omega)]
theorem FP_congr {f g : Nat → Int} {n k : Nat} (h : ∀ i, i < n → f i = g i) (hf : FP f n k) : FP g n k :=
  ⟨hf.1, fun j a b => (okAt_congr h (Nat.lt_of_lt_of_le b hf.1)).1 (hf.2.1 j a b), fun a => ⟨(hf.2.2 a).1, fun o => (hf.2.2 a).2 ((okAt_congr h a).2 o)⟩⟩
theorem fpN_congr {f g : Nat → Int} {n : Nat} (hn : n ≤ 4) (h : ∀ i, i < n → f i = g i) : fpN f n = fpN g n := fp_eq g n _ hn (FP_congr h (fpN_FP f n hn))
/-- Bytes that end before all that might be there are known to. -/
theorem fpN_stop {f g : Nat → Int} {n m : Nat} (hm : m ≤ 4) (hnm : n ≤ m) (h : ∀ i, i < n → f i = g i) (hk : fpN f n < n) : fpN g m = fpN f n := by
  have hf := fpN_FP f n (by omega)
  refine (fp_eq g m _ hm ⟨by omega, fun j a b => (okAt_congr h (by omega)).1 (hf.2.1 j a b), fun _ => ⟨(hf.2.2 hk).1, fun o => (hf.2.2 hk).2 ((okAt_congr h hk).2 o)⟩⟩).symm
theorem jn_congr {f g : Nat → Int} {p : Int} {n : Nat} (h : ∀ i, i < n → f i = g i) : ∀ k, k < n → jn p f k = jn p g k
  | 0, _ => rfl
  | k + 1, hk => by simp only [jn]; rw [jn_congr h k (by omega), h (k + 1) hk]

/-- What is decided of bytes stays, whatever comes behind them. -/
theorem dec_stays {f g : Nat → Int} {n m : Nat} (hnm : n ≤ m) (h : ∀ i, i < n → f i = g i) (hd : (dec f n false).2.2 = false) : dec g m false = dec f n false := by
  by_cases hn : n = 0
  · subst hn; exact absurd hd (by simp [dec])
  have h0 := h 0 (by omega)
  have hsb := sizeOf_bd (f 0)
  obtain ⟨s, hs⟩ := Int.eq_ofNat_of_zero_le hsb.1
  have hs' : sizeOf (g 0) = (s : Int) := by rw [← h0]; exact hs
  have hle := fpN_le f (min s n)
  by_cases hA : 0 < s ∧ fpN f (min s n) = s
  · have e : fpN g (min s m) = s := by
      rw [show min s m = min s n by omega, ← fpN_congr (f := f) (by omega) (fun i hi => h i (by omega))]; exact hA.2
    rw [dec_yes (by omega) hs hA.1 hA.2, dec_yes (by omega) hs' hA.1 e, h0, jn_congr (f := f) (n := n) h _ (by omega)]
  · by_cases hB : fpN f (min s n) = n
    · rw [dec_more (by omega) hs hA hB] at hd; cases hd
    · have e : fpN g (min s m) = fpN f (min s n) := by
        by_cases hc : s ≤ n
        · rw [show min s m = min s n by omega]
          exact (fpN_congr (by omega) (fun i hi => h i (by omega))).symm
        · exact fpN_stop (by omega) (by omega) (fun i hi => h i (by omega)) (by omega)
      rw [dec_no (by omega) hs hA (fun x => hB x.1), dec_no (by omega) hs' (by rw [e]; exact hA) (fun x => by have := x.1; omega)]

/-- The reference's bits: what n bytes tell, told with no look at what may be. -/
def jr (p : Int) (f : Nat → Int) : Nat → Int
  | 0 => p
  | k + 1 => 64 * jr p f k + f (k + 1) - 128
def base (n : Nat) : Int := if n = 1 then 0 else if n = 2 then 192 else if n = 3 then 224 else 240
def tail (f : Nat → Int) (j : Nat) : Prop := 128 ≤ f j ∧ f j ≤ 191
theorem jr_bd (p : Int) (f : Nat → Int) (h0 : -256 ≤ p) (h1 : p ≤ 255) (hf : ∀ i, 0 ≤ f i ∧ f i ≤ 255) : ∀ k, k ≤ 3 → -134217728 ≤ jr p f k ∧ jr p f k ≤ 134217728
  | 0, _ => by simp only [jr]; omega
  | 1, _ => by have := hf (0 + 1); simp only [jr]; omega
  | 2, _ => by have := hf (0 + 1); have := hf (1 + 1); simp only [jr]; omega
  | 3, _ => by have := hf (0 + 1); have := hf (1 + 1); have := hf (2 + 1); simp only [jr]; omega
  | k + 4, h => absurd h (by omega)
/-- What 'bits' answers. -/
def BR (f : Nat → Int) (n : Nat) (r : Int) : Prop := (∃ j, 1 ≤ j ∧ j < n ∧ ¬ tail f j) ∧ r = -1 ∨ (∀ j, 1 ≤ j → j < n → tail f j) ∧ r = jr (f 0 - base n) f (n - 1)

/-- A code point's bytes. -/
def encN (p : Int) : Nat := if p < 128 then 1 else if p < 2048 then 2 else if p < 65536 then 3 else 4
def encL (p : Int) : List Int := if p < 128 then [p] else if p < 2048 then [192 + p / 64, 128 + p % 64] else if p < 65536 then [224 + p / 4096, 128 + p / 64 % 64, 128 + p % 64] else [240 + p / 262144, 128 + p / 4096 % 64, 128 + p / 64 % 64, 128 + p % 64]
def encF (p : Int) (i : Nat) : Int := (encL p).getD i 0
theorem enc_1 {p : Int} (h : p < 128) : encN p = 1 ∧ encL p = [p] := by unfold encN encL; rw [if_pos h, if_pos h]; exact ⟨rfl, rfl⟩
theorem enc_2 {p : Int} (h : 128 ≤ p) (h' : p < 2048) : encN p = 2 ∧ encL p = [192 + p / 64, 128 + p % 64] := by
  unfold encN encL; rw [if_neg (by omega), if_pos h', if_neg (by omega), if_pos h']; exact ⟨rfl, rfl⟩
theorem enc_3 {p : Int} (h : 2048 ≤ p) (h' : p < 65536) : encN p = 3 ∧ encL p = [224 + p / 4096, 128 + p / 64 % 64, 128 + p % 64] := by
  unfold encN encL; rw [if_neg (by omega), if_neg (by omega), if_pos h', if_neg (by omega), if_neg (by omega), if_pos h']; exact ⟨rfl, rfl⟩
theorem enc_4 {p : Int} (h : 65536 ≤ p) : encN p = 4 ∧ encL p = [240 + p / 262144, 128 + p / 4096 % 64, 128 + p / 64 % 64, 128 + p % 64] := by
  unfold encN encL; rw [if_neg (by omega), if_neg (by omega), if_neg (by omega), if_neg (by omega), if_neg (by omega), if_neg (by omega)]; exact ⟨rfl, rfl⟩
theorem isPt_iff (p : Int) : isPt p = true ↔ 0 ≤ p ∧ p ≤ 1114111 ∧ (p < 55296 ∨ 57343 < p) := by simp [isPt, and_assoc]
theorem encF_bd (p : Int) (h0 : 0 ≤ p) (h1 : p ≤ 1114111) (i : Nat) : 0 ≤ encF p i ∧ encF p i ≤ 255 := by
  have key : ∀ l : List Int, (∀ x ∈ l, 0 ≤ x ∧ x ≤ 255) → 0 ≤ l.getD i 0 ∧ l.getD i 0 ≤ 255 := fun l hl => by
    rw [List.getD_eq_getElem?_getD]
    by_cases hi : i < l.length
    · rw [List.getElem?_eq_getElem hi]; exact hl _ (List.getElem_mem hi)
    · rw [List.getElem?_eq_none (by omega)]; simp
  refine key _ ?_
  by_cases a : p < 128
  · rw [(enc_1 a).2]; simp; omega
  · by_cases b : p < 2048
    · rw [(enc_2 (by omega) b).2]; simp; omega
    · by_cases c : p < 65536
      · rw [(enc_3 (by omega) c).2]; simp; omega
      · rw [(enc_4 (by omega)).2]; simp; omega

end Go.Proofs.YtiheagkgpbkkfaaDoor.Utf

/-
  That the reference's way to decode comes to what the program's does: plain mathematics on bytes.
-/
namespace Go.Proofs.YtiheagkgpbkkfaaDoor.Utf

theorem lo2_eq (c : Int) : (c = 224 → lo2 c = 160) ∧ (c = 240 → lo2 c = 144) ∧ (c ≠ 224 → c ≠ 240 → lo2 c = 128) := by
  unfold lo2
  refine ⟨fun h => by rw [if_pos h], fun h => by rw [if_neg (by omega), if_pos h], fun h h' => by rw [if_neg h, if_neg h']⟩
theorem hi2_eq (c : Int) : (c = 237 → hi2 c = 159) ∧ (c = 244 → hi2 c = 143) ∧ (c ≠ 237 → c ≠ 244 → hi2 c = 191) := by
  unfold hi2
  refine ⟨fun h => by rw [if_pos h], fun h => by rw [if_neg (by omega), if_pos h], fun h h' => by rw [if_neg h, if_neg h']⟩

theorem fpN_full {f : Nat → Int} {k : Nat} (hk : k ≤ 4) : fpN f k = k ↔ ∀ j, 1 ≤ j → j < k → okAt f j := by
  have h := fpN_FP f k hk
  constructor
  · intro e
    rw [e] at h
    exact h.2.1
  · intro e
    exact (fp_eq f k k hk ⟨Nat.le_refl _, e, fun a => absurd a (by omega)⟩).symm

/-- n bytes are there, as many as the first one asks for: they are a code point's, or the first one is a byte of none. -/
theorem dec_full {f : Nat → Int} {m n : Nat} {fin : Bool} (h1 : 1 ≤ n) (h4 : n ≤ 4) (hm : n ≤ m) (hs : sizeOf (f 0) = n) :
    ((∀ j, 1 ≤ j → j < n → okAt f j) → dec f m fin = (jn (p0 n (f 0)) f (n - 1), (n : Int), false)) ∧ (¬ (∀ j, 1 ≤ j → j < n → okAt f j) → dec f m fin = (-1, 1, false)) := by
  have e : min n m = n := by omega
  have hle := fpN_le f n
  constructor
  · intro h
    exact dec_yes (by omega) hs (by omega) (by rw [e]; exact (fpN_full h4).2 h)
  · intro h
    rw [← fpN_full h4] at h
    exact dec_no (by omega) hs (by rw [e]; exact fun x => h x.2) (by rw [e]; intro x; have := x.1; omega)
theorem dec_zero {f : Nat → Int} {m : Nat} {fin : Bool} (h1 : 1 ≤ m) (hs : sizeOf (f 0) = 0) : dec f m fin = (-1, 1, false) := by
  have e : fpN f (min 0 m) = 0 := by rw [Nat.zero_min]; rfl
  exact dec_no (s := 0) (by omega) hs (by omega) (by rw [e]; intro x; have := x.1; omega)
/-- Fewer bytes are there than the first one asks for. -/
theorem dec_part {f : Nat → Int} {m n : Nat} (h1 : 1 ≤ m) (h4 : n ≤ 4) (hm : m < n) (hs : sizeOf (f 0) = n) :
    ((∀ j, 1 ≤ j → j < m → okAt f j) → dec f m false = (-1, 0, true)) ∧ (¬ (∀ j, 1 ≤ j → j < m → okAt f j) → dec f m false = (-1, 1, false)) ∧ dec f m true = (-1, 1, false) := by
  have e : min n m = m := by omega
  have hle := fpN_le f m
  have hA : ¬ (0 < n ∧ fpN f (min n m) = n) := by rw [e]; omega
  refine ⟨fun h => ?_, fun h => ?_, ?_⟩
  · exact dec_more (by omega) hs hA (by rw [e]; exact (fpN_full (by omega)).2 h)
  · rw [← fpN_full (by omega)] at h
    exact dec_no (by omega) hs hA (by rw [e]; exact fun x => h x.1)
  · exact dec_no (by omega) hs hA (by simp)

theorem isPt_of {q : Int} (h0 : 0 ≤ q) (h1 : q ≤ 1114111) (h2 : q < 55296 ∨ 57343 < q) : isPt q = true := (isPt_iff q).2 ⟨h0, h1, h2⟩
def Fit (f : Nat → Int) (n : Nat) (q : Int) : Prop := isPt q = true ∧ encN q = n ∧ ∀ i, i < n → encF q i = f i
def WR (f : Nat → Int) (n : Nat) (r : Int) : Prop := ∃ q, BR f n q ∧ (Fit f n q ∧ r = q ∨ ¬ Fit f n q ∧ r = -1)
theorem encN_lt {q : Int} : (encN q = 1 → q < 128) ∧ (encN q = 2 → 128 ≤ q ∧ q < 2048) ∧ (encN q = 3 → 2048 ≤ q ∧ q < 65536) ∧ (encN q = 4 → 65536 ≤ q) := by
  by_cases a : q < 128
  · rw [(enc_1 a).1]; omega
  · by_cases b : q < 2048
    · rw [(enc_2 (by omega) b).1]; omega
    · by_cases c : q < 65536
      · rw [(enc_3 (by omega) c).1]; omega
      · rw [(enc_4 (by omega)).1]; omega

theorem fit1 {f : Nat → Int} (h0 : 0 ≤ f 0) (h : f 0 < 128) : Fit f 1 (f 0) := by
  refine ⟨isPt_of h0 (by omega) (by omega), (enc_1 h).1, fun i hi => ?_⟩
  obtain rfl : i = 0 := by omega
  unfold encF; rw [(enc_1 h).2]; rfl
theorem fit2 {f : Nat → Int} {q : Int} (hq : q = 64 * (f 0 - 192) + f 1 - 128) (h0 : 192 ≤ f 0) (h0' : f 0 < 224) (h1 : 128 ≤ f 1) (h1' : f 1 ≤ 191) : Fit f 2 q ↔ 194 ≤ f 0 := by
  constructor
  · intro h
    have := (encN_lt (q := q)).2.1 h.2.1
    omega
  · intro h
    have e := enc_2 (p := q) (by omega) (by omega)
    refine ⟨isPt_of (by omega) (by omega) (by omega), e.1, fun i hi => ?_⟩
    unfold encF; rw [e.2]
    obtain rfl | rfl : i = 0 ∨ i = 1 := by omega
    · show 192 + q / 64 = _; omega
    · show 128 + q % 64 = _; omega
theorem fit3 {f : Nat → Int} {q : Int} (hq : q = 64 * (64 * (f 0 - 224) + f 1 - 128) + f 2 - 128) (h0 : 224 ≤ f 0) (h0' : f 0 < 240) (h1 : 128 ≤ f 1) (h1' : f 1 ≤ 191) (h2 : 128 ≤ f 2) (h2' : f 2 ≤ 191) :
    Fit f 3 q ↔ lo2 (f 0) ≤ f 1 ∧ f 1 ≤ hi2 (f 0) := by
  have l := lo2_eq (f 0)
  have g := hi2_eq (f 0)
  constructor
  · intro h
    have a := (encN_lt (q := q)).2.2.1 h.2.1
    have b := (isPt_iff q).1 h.1
    omega
  · intro h
    have e := enc_3 (p := q) (by omega) (by omega)
    refine ⟨isPt_of (by omega) (by omega) (by omega), e.1, fun i hi => ?_⟩
    unfold encF; rw [e.2]
    obtain rfl | rfl | rfl : i = 0 ∨ i = 1 ∨ i = 2 := by omega
    · show 224 + q / 4096 = _; omega
    · show 128 + q / 64 % 64 = _; omega
    · show 128 + q % 64 = _; omega
theorem fit4 {f : Nat → Int} {q : Int} (hq : q = 64 * (64 * (64 * (f 0 - 240) + f 1 - 128) + f 2 - 128) + f 3 - 128) (h0 : 240 ≤ f 0) (h0' : f 0 < 248) (h1 : 128 ≤ f 1) (h1' : f 1 ≤ 191) (h2 : 128 ≤ f 2) (h2' : f 2 ≤ 191) (h3 : 128 ≤ f 3) (h3' : f 3 ≤ 191) :
    Fit f 4 q ↔ f 0 < 245 ∧ lo2 (f 0) ≤ f 1 ∧ f 1 ≤ hi2 (f 0) := by
  have l := lo2_eq (f 0)
  have g := hi2_eq (f 0)
  constructor
  · intro h
    have a := (encN_lt (q := q)).2.2.2 h.2.1
    have b := (isPt_iff q).1 h.1
    omega
  · intro h
    have e := enc_4 (p := q) (by omega)
    refine ⟨isPt_of (by omega) (by omega) (by omega), e.1, fun i hi => ?_⟩
    unfold encF; rw [e.2]
    obtain rfl | rfl | rfl | rfl : i = 0 ∨ i = 1 ∨ i = 2 ∨ i = 3 := by omega
    · show 240 + q / 262144 = _; omega
    · show 128 + q / 4096 % 64 = _; omega
    · show 128 + q / 64 % 64 = _; omega
    · show 128 + q % 64 = _; omega

/-- All of a code point's bytes behind the first one may be. -/
theorem ok_all {f : Nat → Int} {n : Nat} (h2 : 2 ≤ n) : (∀ j, 1 ≤ j → j < n → okAt f j) ↔ (lo2 (f 0) ≤ f 1 ∧ f 1 ≤ hi2 (f 0)) ∧ ∀ j, 2 ≤ j → j < n → tail f j := by
  constructor
  · intro h
    exact ⟨okAt_one.1 (h 1 (by omega) (by omega)), fun j a b => (okAt_more (by omega)).1 (h j (by omega) b)⟩
  · rintro ⟨h, g⟩ j a b
    by_cases e : j = 1
    · subst e; exact okAt_one.2 h
    · exact (okAt_more e).2 (g j (by omega) b)
theorem tail_of_ok {f : Nat → Int} (h : lo2 (f 0) ≤ f 1 ∧ f 1 ≤ hi2 (f 0)) : tail f 1 := by
  have l := lo2_eq (f 0)
  have g := hi2_eq (f 0)
  unfold tail
  omega

end Go.Proofs.YtiheagkgpbkkfaaDoor.Utf

/-
  The reference's Decode, case by case, comes to 'dec'.
-/
namespace Go.Proofs.YtiheagkgpbkkfaaDoor.Utf

theorem long_cases {c : Int} {n : Nat} (h : long c = n) (h0 : 0 < n) : (n = 1 ∧ c < 128) ∨ (n = 2 ∧ 192 ≤ c ∧ c < 224) ∨ (n = 3 ∧ 224 ≤ c ∧ c < 240) ∨ (n = 4 ∧ 240 ≤ c ∧ c < 248) := by
  unfold long at h
  by_cases a : c < 128
  · rw [if_pos a] at h; omega
  · rw [if_neg a] at h
    by_cases b : 192 ≤ c ∧ c < 224
    · rw [if_pos b] at h; omega
    · rw [if_neg b] at h
      by_cases d : 224 ≤ c ∧ c < 240
      · rw [if_pos d] at h; omega
      · rw [if_neg d] at h
        by_cases e : 240 ≤ c ∧ c < 248
        · rw [if_pos e] at h; omega
        · rw [if_neg e] at h; omega
theorem long_zero {c : Int} (h : long c = 0) : sizeOf c = 0 := by
  unfold long at h
  by_cases a : c < 128
  · rw [if_pos a] at h; omega
  · rw [if_neg a] at h
    by_cases b : 192 ≤ c ∧ c < 224
    · rw [if_pos b] at h; omega
    · rw [if_neg b] at h
      by_cases d : 224 ≤ c ∧ c < 240
      · rw [if_pos d] at h; omega
      · rw [if_neg d] at h
        by_cases e : 240 ≤ c ∧ c < 248
        · rw [if_pos e] at h; omega
        · by_cases g : c < 194
          · exact sizeOf_0 (by omega) g
          · exact sizeOf_5 (by omega)
theorem long_bd (c : Int) : 0 ≤ long c ∧ long c ≤ 4 := by
  unfold long
  split
  · omega
  · split
    · omega
    · split
      · omega
      · split <;> omega

/-- What 'whole' answers, in both ways. -/
def Out (f : Nat → Int) (m n : Nat) (fin : Bool) (r : Int) : Prop := (0 ≤ r → dec f m fin = (r, (n : Int), false)) ∧ (r < 0 → dec f m fin = (-1, 1, false))
theorem out_no {f : Nat → Int} {m n : Nat} {fin : Bool} (h : dec f m fin = (-1, 1, false)) : Out f m n fin (-1) := ⟨fun a => absurd a (by omega), fun _ => h⟩
theorem out_yes {f : Nat → Int} {m n : Nat} {fin : Bool} {r : Int} (h0 : 0 ≤ r) (h : dec f m fin = (r, (n : Int), false)) : Out f m n fin r := ⟨fun _ => h, fun a => absurd a (by omega)⟩
theorem not_fit_neg {f : Nat → Int} {n : Nat} : ¬ Fit f n (-1) := fun h => by
  have := (isPt_iff (-1)).1 h.1
  omega

theorem whole_dec1 {f : Nat → Int} {m : Nat} {fin : Bool} {r : Int} (hz : ∀ i, 0 ≤ f i ∧ f i ≤ 255) (hm : 1 ≤ m) (hc : f 0 < 128) (h : WR f 1 r) : Out f m 1 fin r := by
  obtain ⟨q, hB, hF⟩ := h
  have z0 := hz 0
  have hq : q = f 0 := by
    rcases hB with ⟨⟨j, a, b, _⟩, _⟩ | ⟨_, e⟩
    · omega
    · simpa [base, jr] using e
  subst hq
  rcases hF with ⟨_, rfl⟩ | ⟨hn, _⟩
  · refine out_yes z0.1 ?_
    have := (dec_full (fin := fin) (f := f) (n := 1) (by omega) (by omega) hm (sizeOf_1 hc)).1 (fun j a b => absurd b (by omega))
    rw [this]; simp [p0, jn]
  · exact absurd (fit1 z0.1 hc) hn

theorem whole_dec2 {f : Nat → Int} {m : Nat} {fin : Bool} {r : Int} (hm : 2 ≤ m) (hc : 192 ≤ f 0) (hc' : f 0 < 224) (h : WR f 2 r) : Out f m 2 fin r := by
  obtain ⟨q, hB, hF⟩ := h
  have hd := dec_full (fin := fin) (f := f) (n := 2) (m := m) (by omega) (by omega) hm
  have no : ¬ (194 ≤ f 0 ∧ tail f 1) → dec f m fin = (-1, 1, false) := fun hno => by
    by_cases g : 194 ≤ f 0
    · exact (hd (sizeOf_2 g hc')).2 (fun a => hno ⟨g, tail_of_ok ((ok_all (by omega)).1 a).1⟩)
    · exact dec_zero (by omega) (sizeOf_0 (by omega) (by omega))
  rcases hB with ⟨⟨j, a, b, hj⟩, rfl⟩ | ⟨ht, hq⟩
  · obtain rfl : j = 1 := by omega
    rcases hF with ⟨hF, _⟩ | ⟨_, rfl⟩
    · exact absurd hF not_fit_neg
    · exact out_no (no (fun x => hj x.2))
  · have t1 := ht 1 (by omega) (by omega)
    have hq' : q = 64 * (f 0 - 192) + f 1 - 128 := hq
    have hfit := fit2 hq' hc hc' t1.1 t1.2
    rcases hF with ⟨hF, rfl⟩ | ⟨hF, rfl⟩
    · have g := hfit.1 hF
      refine out_yes (by have := t1.1; omega) ?_
      have l := lo2_eq (f 0)
      have k := hi2_eq (f 0)
      unfold tail at t1
      rw [(hd (sizeOf_2 g hc')).1 ((ok_all (by omega)).2 ⟨by omega, fun j a b => absurd b (by omega)⟩)]
      have e : jn (p0 2 (f 0)) f (2 - 1) = r := by
        show 64 * (f 0 % 32) + f 1 % 64 = r
        omega
      rw [e]
    · exact out_no (no (fun x => hF (hfit.2 x.1)))

theorem whole_dec3 {f : Nat → Int} {m : Nat} {fin : Bool} {r : Int} (hm : 3 ≤ m) (hc : 224 ≤ f 0) (hc' : f 0 < 240) (h : WR f 3 r) : Out f m 3 fin r := by
  obtain ⟨q, hB, hF⟩ := h
  have hd := dec_full (fin := fin) (f := f) (n := 3) (m := m) (by omega) (by omega) hm (sizeOf_3 hc hc')
  have ok := ok_all (f := f) (n := 3) (by omega)
  rcases hB with ⟨⟨j, a, b, hj⟩, rfl⟩ | ⟨ht, hq⟩
  · rcases hF with ⟨hF, _⟩ | ⟨_, rfl⟩
    · exact absurd hF not_fit_neg
    · refine out_no (hd.2 (fun x => hj ?_))
      have y := ok.1 x
      obtain rfl | rfl : j = 1 ∨ j = 2 := by omega
      · exact tail_of_ok y.1
      · exact y.2 2 (by omega) (by omega)
  · have t1 := ht 1 (by omega) (by omega)
    have t2 := ht 2 (by omega) (by omega)
    have hq' : q = 64 * (64 * (f 0 - 224) + f 1 - 128) + f 2 - 128 := hq
    have hfit := fit3 hq' hc hc' t1.1 t1.2 t2.1 t2.2
    rcases hF with ⟨hF, rfl⟩ | ⟨hF, rfl⟩
    · have g := hfit.1 hF
      unfold tail at t1 t2
      refine out_yes (by omega) ?_
      rw [hd.1 (ok.2 ⟨g, fun j a b => by obtain rfl : j = 2 := (by omega); exact t2⟩)]
      have e : jn (p0 3 (f 0)) f (3 - 1) = r := by
        show 64 * (64 * (f 0 % 16) + f 1 % 64) + f 2 % 64 = r
        omega
      rw [e]
    · exact out_no (hd.2 (fun x => hF (hfit.2 (ok.1 x).1)))

theorem whole_dec4 {f : Nat → Int} {m : Nat} {fin : Bool} {r : Int} (hm : 4 ≤ m) (hc : 240 ≤ f 0) (hc' : f 0 < 248) (h : WR f 4 r) : Out f m 4 fin r := by
  obtain ⟨q, hB, hF⟩ := h
  have hd := dec_full (fin := fin) (f := f) (n := 4) (m := m) (by omega) (by omega) hm
  have ok := ok_all (f := f) (n := 4) (by omega)
  have no : ¬ (f 0 < 245 ∧ ∀ j, 1 ≤ j → j < 4 → okAt f j) → dec f m fin = (-1, 1, false) := fun hno => by
    by_cases g : f 0 < 245
    · exact (hd (sizeOf_4 hc g)).2 (fun a => hno ⟨g, a⟩)
    · exact dec_zero (by omega) (sizeOf_5 (by omega))
  rcases hB with ⟨⟨j, a, b, hj⟩, rfl⟩ | ⟨ht, hq⟩
  · rcases hF with ⟨hF, _⟩ | ⟨_, rfl⟩
    · exact absurd hF not_fit_neg
    · refine out_no (no (fun x => hj ?_))
      have y := ok.1 x.2
      obtain rfl | rfl | rfl : j = 1 ∨ j = 2 ∨ j = 3 := by omega
      · exact tail_of_ok y.1
      · exact y.2 2 (by omega) (by omega)
      · exact y.2 3 (by omega) (by omega)
  · have t1 := ht 1 (by omega) (by omega)
    have t2 := ht 2 (by omega) (by omega)
    have t3 := ht 3 (by omega) (by omega)
    have hq' : q = 64 * (64 * (64 * (f 0 - 240) + f 1 - 128) + f 2 - 128) + f 3 - 128 := hq
    have hfit := fit4 hq' hc hc' t1.1 t1.2 t2.1 t2.2 t3.1 t3.2
    rcases hF with ⟨hF, rfl⟩ | ⟨hF, rfl⟩
    · have g := hfit.1 hF
      unfold tail at t1 t2 t3
      refine out_yes (by omega) ?_
      rw [(hd (sizeOf_4 hc g.1)).1 (ok.2 ⟨g.2, fun j a b => by
        obtain rfl | rfl : j = 2 ∨ j = 3 := by omega
        · exact t2
        · exact t3⟩)]
      have e : jn (p0 4 (f 0)) f (4 - 1) = r := by
        show 64 * (64 * (64 * (f 0 % 8) + f 1 % 64) + f 2 % 64) + f 3 % 64 = r
        omega
      rw [e]
    · exact out_no (no (fun x => hF (hfit.2 ⟨x.1, (ok.1 x.2).1⟩)))

theorem whole_dec {f : Nat → Int} {m n : Nat} {fin : Bool} {r : Int} (hz : ∀ i, 0 ≤ f i ∧ f i ≤ 255) (h1 : 0 < n) (hm : n ≤ m) (hl : long (f 0) = n) (h : WR f n r) : Out f m n fin r := by
  rcases long_cases hl h1 with ⟨rfl, a⟩ | ⟨rfl, a, b⟩ | ⟨rfl, a, b⟩ | ⟨rfl, a, b⟩
  · exact whole_dec1 hz hm a h
  · exact whole_dec2 hm a b h
  · exact whole_dec3 hm a b h
  · exact whole_dec4 hm a b h

def least (n : Nat) : Int := if n = 3 then 2048 else if n = 4 then 65536 else 128
/-- What 'might' answers, of the least and the greatest number. -/
def mightB (n : Nat) (a b : Int) : Bool :=
  if a < 0 ∨ b < 0 then false else decide (max a (least n) ≤ min b 1114111) && !(decide (55296 ≤ max a (least n)) && decide (min b 1114111 ≤ 57343))
theorem mightB_neg {n : Nat} {a b : Int} (h : a < 0 ∨ b < 0) : mightB n a b = false := by unfold mightB; rw [if_pos h]
theorem mightB_iff {n : Nat} {a b : Int} (h0 : 0 ≤ a) (h1 : 0 ≤ b) : mightB n a b = true ↔ max a (least n) ≤ min b 1114111 ∧ ¬ (55296 ≤ max a (least n) ∧ min b 1114111 ≤ 57343) := by
  unfold mightB
  rw [if_neg (by omega)]
  simp
  omega

/-- The cases in one: the bytes that are there may be, just if 'might' says so. -/
theorem might_of {f : Nat → Int} {m n : Nat} {x : Bool} (h1 : 1 ≤ m) (h4 : n ≤ 4) (hm : m < n) (hs : sizeOf (f 0) = n ∨ sizeOf (f 0) = 0)
    (hx : x = true ↔ sizeOf (f 0) = n ∧ ∀ j, 1 ≤ j → j < m → okAt f j) : dec f m false = if x = true then (-1, 0, true) else (-1, 1, false) := by
  by_cases h : x = true
  · rw [if_pos h]
    have := hx.1 h
    exact (dec_part h1 h4 hm this.1).1 this.2
  · rw [if_neg h]
    rw [hx] at h
    rcases hs with hs | hs
    · exact (dec_part h1 h4 hm hs).2.1 (fun a => h ⟨hs, a⟩)
    · exact dec_zero h1 hs

theorem dec_short_true {f : Nat → Int} {m n : Nat} (h1 : 1 ≤ m) (hm : m < n) (hl : long (f 0) = n) : dec f m true = (-1, 1, false) := by
  rcases long_cases hl (by omega) with ⟨rfl, c⟩ | ⟨rfl, c, d⟩ | ⟨rfl, c, d⟩ | ⟨rfl, c, d⟩
  · omega
  · by_cases g : 194 ≤ f 0
    · exact (dec_part h1 (by omega) hm (sizeOf_2 g d)).2.2
    · exact dec_zero h1 (sizeOf_0 (by omega) (by omega))
  · exact (dec_part h1 (by omega) hm (sizeOf_3 c d)).2.2
  · by_cases g : f 0 < 245
    · exact (dec_part h1 (by omega) hm (sizeOf_4 c g)).2.2
    · exact dec_zero h1 (sizeOf_5 (by omega))
theorem cat_tails {f : Nat → Int} {m n : Nat} {c : Int} (h0 : 128 ≤ c) (h1 : c ≤ 191) {r : Int} (h : BR (cat f m fun _ => c) n r) :
    (∃ j, 1 ≤ j ∧ j < m ∧ ¬ tail f j) ∧ r = -1 ∨ (∀ j, 1 ≤ j → j < min m n → tail f j) ∧ r = jr (cat f m (fun _ => c) 0 - base n) (cat f m fun _ => c) (n - 1) := by
  rcases h with ⟨⟨j, a, b, hj⟩, e⟩ | ⟨ht, e⟩
  · by_cases hjm : j < m
    · exact Or.inl ⟨⟨j, a, hjm, fun t => hj (by unfold tail at *; rw [cat_lt hjm]; exact t)⟩, e⟩
    · exact absurd (by unfold tail; rw [cat_ge (by omega)]; omega) hj
  · exact Or.inr ⟨fun j a b => by have := ht j a (by omega); unfold tail at *; rwa [cat_lt (by omega)] at this, e⟩

theorem might_dec {f : Nat → Int} {m n : Nat} {a b : Int} (h1 : 1 ≤ m) (hm : m < n) (hl : long (f 0) = n) (ha : BR (cat f m fun _ => 128) n a) (hb : BR (cat f m fun _ => 191) n b) :
    dec f m false = if mightB n a b = true then (-1, 0, true) else (-1, 1, false) := by
  have l := lo2_eq (f 0)
  have k := hi2_eq (f 0)
  have bad : (∃ j, 1 ≤ j ∧ j < m ∧ ¬ tail f j) → (a < 0 ∨ b < 0) → (sizeOf (f 0) = n ∨ sizeOf (f 0) = 0) → n ≤ 4 → dec f m false = if mightB n a b = true then (-1, 0, true) else (-1, 1, false) := by
    rintro ⟨j, c, d, hj⟩ hab hs h4
    refine might_of h1 h4 hm hs ⟨fun h => ?_, fun h => ?_⟩
    · rw [mightB_neg hab] at h; cases h
    · have := (ok_all (f := f) (n := m) (by omega)).1 h.2
      by_cases e : j = 1
      · subst e; exact absurd (tail_of_ok this.1) hj
      · exact absurd (this.2 j (by omega) d) hj
  rcases long_cases hl (by omega) with ⟨rfl, c⟩ | ⟨rfl, c, d⟩ | ⟨rfl, c, d⟩ | ⟨rfl, c, d⟩
  · omega
  · have hs : sizeOf (f 0) = ((2 : Nat) : Int) ∨ sizeOf (f 0) = 0 := by
      by_cases g : 194 ≤ f 0
      · exact Or.inl (sizeOf_2 g d)
      · exact Or.inr (sizeOf_0 (by omega) (by omega))
    have g2 : sizeOf (f 0) = ((2 : Nat) : Int) ↔ 194 ≤ f 0 := by
      by_cases g : 194 ≤ f 0
      · rw [sizeOf_2 g d]; simp [g]
      · rw [sizeOf_0 (by omega) (by omega)]; simp; omega
    obtain rfl : m = 1 := by omega
    rcases cat_tails (by omega) (by omega) ha with ⟨hj, e⟩ | ⟨ta, ea⟩
    · exact bad hj (by omega) hs (by omega)
    rcases cat_tails (by omega) (by omega) hb with ⟨hj, e⟩ | ⟨tb, eb⟩
    · exact bad hj (by omega) hs (by omega)
    have ea' : a = 64 * (f 0 - 192) + 128 - 128 := ea
    have eb' : b = 64 * (f 0 - 192) + 191 - 128 := eb
    refine might_of h1 (by omega) hm hs ?_
    rw [mightB_iff (by omega) (by omega), g2]
    simp only [least]
    constructor
    · intro x; exact ⟨by simp at x; omega, fun j a b => absurd b (by omega)⟩
    · intro x; have := x.1; simp; omega
  · have hs : sizeOf (f 0) = ((3 : Nat) : Int) := sizeOf_3 c d
    rcases cat_tails (by omega) (by omega) ha with ⟨hj, e⟩ | ⟨ta, ea⟩
    · exact bad hj (by omega) (Or.inl hs) (by omega)
    rcases cat_tails (by omega) (by omega) hb with ⟨hj, e⟩ | ⟨tb, eb⟩
    · exact bad hj (by omega) (Or.inl hs) (by omega)
    refine might_of h1 (by omega) hm (Or.inl hs) ?_
    obtain rfl | rfl : m = 1 ∨ m = 2 := by omega
    · have ea' : a = 64 * (64 * (f 0 - 224) + 128 - 128) + 128 - 128 := ea
      have eb' : b = 64 * (64 * (f 0 - 224) + 191 - 128) + 191 - 128 := eb
      rw [mightB_iff (by omega) (by omega)]
      simp only [least]
      constructor
      · intro x; exact ⟨hs, fun j a b => absurd b (by omega)⟩
      · intro x; simp; omega
    · have t1 := ta 1 (by omega) (by omega)
      unfold tail at t1
      have ea' : a = 64 * (64 * (f 0 - 224) + f 1 - 128) + 128 - 128 := ea
      have eb' : b = 64 * (64 * (f 0 - 224) + f 1 - 128) + 191 - 128 := eb
      rw [mightB_iff (by omega) (by omega), ok_all (by omega)]
      simp only [least]
      constructor
      · intro x; exact ⟨hs, by simp at x; omega, fun j a b => absurd b (by omega)⟩
      · intro x; have := x.2.1; simp; omega
  · have hs : sizeOf (f 0) = ((4 : Nat) : Int) ∨ sizeOf (f 0) = 0 := by
      by_cases g : f 0 < 245
      · exact Or.inl (sizeOf_4 c g)
      · exact Or.inr (sizeOf_5 (by omega))
    have g4 : sizeOf (f 0) = ((4 : Nat) : Int) ↔ f 0 < 245 := by
      by_cases g : f 0 < 245
      · rw [sizeOf_4 c g]; simp [g]
      · rw [sizeOf_5 (by omega)]; simp; omega
    rcases cat_tails (by omega) (by omega) ha with ⟨hj, e⟩ | ⟨ta, ea⟩
    · exact bad hj (by omega) hs (by omega)
    rcases cat_tails (by omega) (by omega) hb with ⟨hj, e⟩ | ⟨tb, eb⟩
    · exact bad hj (by omega) hs (by omega)
    refine might_of h1 (by omega) hm hs ?_
    rw [g4]
    obtain rfl | rfl | rfl : m = 1 ∨ m = 2 ∨ m = 3 := by omega
    · have ea' : a = 64 * (64 * (64 * (f 0 - 240) + 128 - 128) + 128 - 128) + 128 - 128 := ea
      have eb' : b = 64 * (64 * (64 * (f 0 - 240) + 191 - 128) + 191 - 128) + 191 - 128 := eb
      rw [mightB_iff (by omega) (by omega)]
      simp only [least]
      constructor
      · intro x; exact ⟨by simp at x; omega, fun j a b => absurd b (by omega)⟩
      · intro x; have := x.1; simp; omega
    · have t1 := ta 1 (by omega) (by omega)
      unfold tail at t1
      have ea' : a = 64 * (64 * (64 * (f 0 - 240) + f 1 - 128) + 128 - 128) + 128 - 128 := ea
      have eb' : b = 64 * (64 * (64 * (f 0 - 240) + f 1 - 128) + 191 - 128) + 191 - 128 := eb
      rw [mightB_iff (by omega) (by omega), ok_all (by omega)]
      simp only [least]
      constructor
      · intro x; exact ⟨by simp at x; omega, by simp at x; omega, fun j a b => absurd b (by omega)⟩
      · intro x; have := x.1; have := x.2.1; simp; omega
    · have t1 := ta 1 (by omega) (by omega)
      have t2 := ta 2 (by omega) (by omega)
      have ea' : a = 64 * (64 * (64 * (f 0 - 240) + f 1 - 128) + f 2 - 128) + 128 - 128 := ea
      have eb' : b = 64 * (64 * (64 * (f 0 - 240) + f 1 - 128) + f 2 - 128) + 191 - 128 := eb
      have t2' := t2
      unfold tail at t1 t2
      rw [mightB_iff (by omega) (by omega), ok_all (by omega)]
      simp only [least]
      constructor
      · intro x
        refine ⟨by simp at x; omega, by simp at x; omega, fun j a b => ?_⟩
        obtain rfl : j = 2 := by omega
        exact t2'
      · intro x; have := x.1; have := x.2.1; simp; omega

end Go.Proofs.YtiheagkgpbkkfaaDoor.Utf

/-
  There and back: a code point's bytes are decoded to it, whatever stands behind; a part of them needs more.
-/
namespace Go.Proofs.YtiheagkgpbkkfaaDoor.Utf

theorem enc_ok {p : Int} (h : isPt p = true) : 1 ≤ encN p ∧ encN p ≤ 4 ∧ sizeOf (encF p 0) = encN p ∧ (∀ j, 1 ≤ j → j < encN p → okAt (encF p) j) ∧ jn (p0 (encN p) (encF p 0)) (encF p) (encN p - 1) = p ∧ (encL p).length = encN p := by
  have hp := (isPt_iff p).1 h
  have l := lo2_eq (encF p 0)
  have k := hi2_eq (encF p 0)
  by_cases a : p < 128
  · have e := enc_1 a
    have e0 : encF p 0 = p := by unfold encF; rw [e.2]; rfl
    rw [e.1]
    refine ⟨by omega, by omega, by rw [e0]; exact sizeOf_1 a, fun j a b => absurd b (by omega), ?_, by rw [e.2]; rfl⟩
    simp [p0, jn, e0]
  by_cases b : p < 2048
  · have e := enc_2 (by omega) b
    have e0 : encF p 0 = 192 + p / 64 := by unfold encF; rw [e.2]; rfl
    have e1 : encF p 1 = 128 + p % 64 := by unfold encF; rw [e.2]; rfl
    rw [e.1]
    refine ⟨by omega, by omega, sizeOf_2 (by omega) (by omega), (ok_all (by omega)).2 ⟨by omega, fun j a b => absurd b (by omega)⟩, ?_, by rw [e.2]; rfl⟩
    show 64 * (encF p 0 % 32) + encF p 1 % 64 = p
    omega
  by_cases c : p < 65536
  · have e := enc_3 (by omega) c
    have e0 : encF p 0 = 224 + p / 4096 := by unfold encF; rw [e.2]; rfl
    have e1 : encF p 1 = 128 + p / 64 % 64 := by unfold encF; rw [e.2]; rfl
    have e2 : encF p 2 = 128 + p % 64 := by unfold encF; rw [e.2]; rfl
    rw [e.1]
    refine ⟨by omega, by omega, sizeOf_3 (by omega) (by omega), (ok_all (by omega)).2 ⟨by omega, fun j a b => ?_⟩, ?_, by rw [e.2]; rfl⟩
    · obtain rfl : j = 2 := by omega
      unfold tail; omega
    · show 64 * (64 * (encF p 0 % 16) + encF p 1 % 64) + encF p 2 % 64 = p
      omega
  · have e := enc_4 (p := p) (by omega)
    have e0 : encF p 0 = 240 + p / 262144 := by unfold encF; rw [e.2]; rfl
    have e1 : encF p 1 = 128 + p / 4096 % 64 := by unfold encF; rw [e.2]; rfl
    have e2 : encF p 2 = 128 + p / 64 % 64 := by unfold encF; rw [e.2]; rfl
    have e3 : encF p 3 = 128 + p % 64 := by unfold encF; rw [e.2]; rfl
    rw [e.1]
    refine ⟨by omega, by omega, sizeOf_4 (by omega) (by omega), (ok_all (by omega)).2 ⟨by omega, fun j a b => ?_⟩, ?_, by rw [e.2]; rfl⟩
    · obtain rfl | rfl : j = 2 ∨ j = 3 := by omega
      all_goals (unfold tail; omega)
    · show 64 * (64 * (64 * (encF p 0 % 8) + encF p 1 % 64) + encF p 2 % 64) + encF p 3 % 64 = p
      omega

theorem enc_dec {p : Int} {g : Nat → Int} {m : Nat} {fin : Bool} (h : isPt p = true) (hm : encN p ≤ m) (hg : ∀ i, i < encN p → g i = encF p i) : dec g m fin = (p, (encN p : Int), false) := by
  obtain ⟨h1, h4, hs, hok, hj, _⟩ := enc_ok h
  have e0 := hg 0 (by omega)
  have := (dec_full (f := g) (fin := fin) h1 h4 hm (by rw [e0]; exact hs)).1 (fun j a b => (okAt_congr (fun i hi => (hg i hi).symm) b).1 (hok j a b))
  rw [this, e0, jn_congr (g := encF p) hg _ (by omega), hj]
theorem enc_part {p : Int} {k : Nat} (h : isPt p = true) (hk : k < encN p) : dec (encF p) k false = (-1, 0, true) := by
  obtain ⟨h1, h4, hs, hok, _⟩ := enc_ok h
  by_cases h0 : k = 0
  · subst h0; simp [dec]
  · exact (dec_part (by omega) h4 hk hs).1 (fun j a b => hok j a (by omega))

end Go.Proofs.YtiheagkgpbkkfaaDoor.Utf

/-
  The lesser code point's bytes stand ahead of the greater one's.
-/
namespace Go.Proofs.YtiheagkgpbkkfaaDoor.Utf

/-- Two rows part at a first place. -/
def Part (f g : Nat → Int) (i : Nat) : Prop := (∀ j, j < i → f j = g j) ∧ f i < g i

theorem encF_0 {p : Int} (h : 0 ≤ p) : (encN p = 1 → encF p 0 < 128) ∧ (encN p = 2 → 194 ≤ encF p 0 ∧ encF p 0 < 224) ∧ (encN p = 3 → 224 ≤ encF p 0 ∧ encF p 0 < 240) ∧ (encN p = 4 → 240 ≤ encF p 0) := by
  by_cases a : p < 128
  · have e := enc_1 a
    have e0 : encF p 0 = p := by unfold encF; rw [e.2]; rfl
    rw [e.1, e0]; omega
  by_cases b : p < 2048
  · have e := enc_2 (by omega) b
    have e0 : encF p 0 = 192 + p / 64 := by unfold encF; rw [e.2]; rfl
    rw [e.1, e0]; omega
  by_cases c : p < 65536
  · have e := enc_3 (by omega) c
    have e0 : encF p 0 = 224 + p / 4096 := by unfold encF; rw [e.2]; rfl
    rw [e.1, e0]; omega
  · have e := enc_4 (p := p) (by omega)
    have e0 : encF p 0 = 240 + p / 262144 := by unfold encF; rw [e.2]; rfl
    rw [e.1, e0]; omega

theorem enc_parts {p q : Int} (hp : isPt p = true) (hq : isPt q = true) (h : p < q) : ∃ i, i < encN p ∧ i < encN q ∧ Part (encF p) (encF q) i := by
  have p0 := (isPt_iff p).1 hp
  have q0 := (isPt_iff q).1 hq
  have np := encN_lt (q := p)
  have nq := encN_lt (q := q)
  have op := (enc_ok hp).1
  have op' := (enc_ok hp).2.1
  have oq := (enc_ok hq).1
  have oq' := (enc_ok hq).2.1
  have fp := encF_0 (p := p) p0.1
  have fq := encF_0 (p := q) q0.1
  have first : encF p 0 < encF q 0 → ∃ i, i < encN p ∧ i < encN q ∧ Part (encF p) (encF q) i := fun x => ⟨0, by omega, by omega, fun j a => absurd a (by omega), x⟩
  by_cases e : encN p = encN q
  · have hn : encN p = 1 ∨ encN p = 2 ∨ encN p = 3 ∨ encN p = 4 := by omega
    rcases hn with n | n | n | n
    · have ep := enc_1 (p := p) (by omega)
      have eq := enc_1 (p := q) (by omega)
      apply first
      unfold encF; rw [ep.2, eq.2]; exact h
    · have ep := enc_2 (p := p) (by omega) (by omega)
      have eq := enc_2 (p := q) (by omega) (by omega)
      by_cases x : p / 64 < q / 64
      · apply first
        unfold encF; rw [ep.2, eq.2]; show 192 + p / 64 < 192 + q / 64; omega
      · refine ⟨1, by omega, by omega, fun j a => ?_, ?_⟩
        · obtain rfl : j = 0 := by omega
          unfold encF; rw [ep.2, eq.2]; show 192 + p / 64 = 192 + q / 64; omega
        · unfold encF; rw [ep.2, eq.2]; show 128 + p % 64 < 128 + q % 64; omega
    · have ep := enc_3 (p := p) (by omega) (by omega)
      have eq := enc_3 (p := q) (by omega) (by omega)
      by_cases x : p / 4096 < q / 4096
      · apply first
        unfold encF; rw [ep.2, eq.2]; show 224 + p / 4096 < 224 + q / 4096; omega
      · by_cases y : p / 64 < q / 64
        · refine ⟨1, by omega, by omega, fun j a => ?_, ?_⟩
          · obtain rfl : j = 0 := by omega
            unfold encF; rw [ep.2, eq.2]; show 224 + p / 4096 = 224 + q / 4096; omega
          · unfold encF; rw [ep.2, eq.2]; show 128 + p / 64 % 64 < 128 + q / 64 % 64; omega
        · refine ⟨2, by omega, by omega, fun j a => ?_, ?_⟩
          · unfold encF; rw [ep.2, eq.2]
            obtain rfl | rfl : j = 0 ∨ j = 1 := by omega
            · show 224 + p / 4096 = 224 + q / 4096; omega
            · show 128 + p / 64 % 64 = 128 + q / 64 % 64; omega
          · unfold encF; rw [ep.2, eq.2]; show 128 + p % 64 < 128 + q % 64; omega
    · have ep := enc_4 (p := p) (by omega)
      have eq := enc_4 (p := q) (by omega)
      by_cases x : p / 262144 < q / 262144
      · apply first
        unfold encF; rw [ep.2, eq.2]; show 240 + p / 262144 < 240 + q / 262144; omega
      · by_cases y : p / 4096 < q / 4096
        · refine ⟨1, by omega, by omega, fun j a => ?_, ?_⟩
          · obtain rfl : j = 0 := by omega
            unfold encF; rw [ep.2, eq.2]; show 240 + p / 262144 = 240 + q / 262144; omega
          · unfold encF; rw [ep.2, eq.2]; show 128 + p / 4096 % 64 < 128 + q / 4096 % 64; omega
        · by_cases z : p / 64 < q / 64
          · refine ⟨2, by omega, by omega, fun j a => ?_, ?_⟩
            · unfold encF; rw [ep.2, eq.2]
              obtain rfl | rfl : j = 0 ∨ j = 1 := by omega
              · show 240 + p / 262144 = 240 + q / 262144; omega
              · show 128 + p / 4096 % 64 = 128 + q / 4096 % 64; omega
            · unfold encF; rw [ep.2, eq.2]; show 128 + p / 64 % 64 < 128 + q / 64 % 64; omega
          · refine ⟨3, by omega, by omega, fun j a => ?_, ?_⟩
            · unfold encF; rw [ep.2, eq.2]
              obtain rfl | rfl | rfl : j = 0 ∨ j = 1 ∨ j = 2 := by omega
              · show 240 + p / 262144 = 240 + q / 262144; omega
              · show 128 + p / 4096 % 64 = 128 + q / 4096 % 64; omega
              · show 128 + p / 64 % 64 = 128 + q / 64 % 64; omega
            · unfold encF; rw [ep.2, eq.2]; show 128 + p % 64 < 128 + q % 64; omega
  · have x : encF p 0 < encF q 0 := by
      clear first
      omega
    exact first x

/-- Two lists of bytes that part at a place: the one that has the lesser byte there stands ahead. -/
theorem less_of_part : ∀ (a b : List UInt8) (i : Nat), i < a.length → i < b.length → (∀ j, j < i → a[j]? = b[j]?) → (∀ x y, a[i]? = some x → b[i]? = some y → x < y) → Op.bytesLess a b = true ∧ Op.bytesLess b a = false
  | [], _, _, h, _, _, _ => absurd h (by simp)
  | _ :: _, [], _, _, h, _, _ => absurd h (by simp)
  | x :: a, y :: b, 0, _, _, _, h => by
    have hxy := h x y rfl rfl
    have h2 : ¬ y < x := UInt8.lt_asymm hxy
    have h3 : ¬ y = x := fun e => by rw [e] at hxy; exact UInt8.lt_irrefl _ hxy
    simp [Op.bytesLess, hxy, h2, h3]
  | x :: a, y :: b, i + 1, ha, hb, hj, h => by
    have e : x = y := by simpa using hj 0 (by omega)
    subst e
    have ih := less_of_part a b i (by simpa using ha) (by simpa using hb) (fun j hi => by simpa using hj (j + 1) (by omega)) (fun u v hu hv => h u v (by simpa using hu) (by simpa using hv))
    simp [Op.bytesLess, ih.1, ih.2]
end Go.Proofs.YtiheagkgpbkkfaaDoor.Utf
namespace Go.Proofs.YtiheagkgpbkkfaaDoor
theorem St.less {s t : ByteArray} {n m i : Nat} {f g : Nat → Int} (hs : St s n f) (ht : St t m g) (hn : i < n) (hm : i < m) (h : Utf.Part f g i) : Op.bytesLess s.toList t.toList = true ∧ Op.bytesLess t.toList s.toList = false := by
  refine Utf.less_of_part _ _ i (by rw [hs.length]; exact hn) (by rw [ht.length]; exact hm) (fun j hj => ?_) (fun x y hx hy => ?_)
  · obtain ⟨x, e1, e2⟩ := hs.get? (i := j) (by omega)
    obtain ⟨y, e3, e4⟩ := ht.get? (i := j) (by omega)
    rw [e1, e3]
    have := h.1 j hj
    congr 1
    apply UInt8.toNat_inj.1
    omega
  · obtain ⟨x', e1, e2⟩ := hs.get? hn
    obtain ⟨y', e3, e4⟩ := ht.get? hm
    rw [e1] at hx
    rw [e3] at hy
    cases hx
    cases hy
    have := h.2
    rw [UInt8.lt_iff_toNat_lt]
    omega
/-- Two rows that part have no common first part of that length. -/
theorem St.part_ne {s t : ByteArray} {n m i k : Nat} {f g : Nat → Int} (hs : St s n f) (ht : St t m g) (hi : i < k) (hn : k ≤ n) (hm : k ≤ m) (h : f i ≠ g i) : ((s.extract 0 k).toList == (t.extract 0 k).toList) = false := by
  refine (hs.extract 0 k (by omega) hn).beq_no (ht.extract 0 k (by omega) hm) (fun x => h ?_)
  have := x.2 i (by omega)
  simpa using this
end Go.Proofs.YtiheagkgpbkkfaaDoor

/-
  The code points of all bytes, and how many bytes at the end need more: plain functions.
-/
namespace Go.Proofs.YtiheagkgpbkkfaaDoor.Utf

def sh (f : Nat → Int) (k : Nat) : Nat → Int := fun i => f (k + i)
theorem sh_sh (f : Nat → Int) (a b : Nat) : sh (sh f a) b = sh f (a + b) := by funext i; simp [sh, Nat.add_assoc]
theorem sh_zero (f : Nat → Int) : sh f 0 = f := by funext i; simp [sh]

/-- How many bytes a step takes. -/
def stepN (f : Nat → Int) (n : Nat) (fin : Bool) : Nat := (dec f n fin).2.1.toNat
def ptsK : Nat → (Nat → Int) → Nat → List Int
  | 0, _, _ => []
  | k + 1, f, n => if n = 0 then [] else (dec f n true).1 :: ptsK k (sh f (stepN f n true)) (n - stepN f n true)
def pts (f : Nat → Int) (n : Nat) : List Int := ptsK n f n
def restK : Nat → (Nat → Int) → Nat → Nat
  | 0, _, _ => 0
  | k + 1, f, n => if n = 0 then 0 else if (dec f n false).2.2 = true then n else restK k (sh f (stepN f n false)) (n - stepN f n false)
def rest (f : Nat → Int) (n : Nat) : Nat := restK n f n

/-- What decoding may answer. -/
theorem dec_cases (f : Nat → Int) (n : Nat) (fin : Bool) (hn : 0 < n) :
    (∃ s : Nat, 0 < s ∧ s ≤ n ∧ sizeOf (f 0) = s ∧ (∀ j, 1 ≤ j → j < s → okAt f j) ∧ dec f n fin = (jn (p0 s (f 0)) f (s - 1), (s : Int), false)) ∨
    (fin = false ∧ (∃ s : Nat, n < s ∧ s ≤ 4 ∧ sizeOf (f 0) = s) ∧ (∀ j, 1 ≤ j → j < n → okAt f j) ∧ dec f n fin = (-1, 0, true)) ∨
    (dec f n fin = (-1, 1, false) ∧ ∀ s : Nat, 0 < s → s ≤ n → sizeOf (f 0) = s → ¬ ∀ j, 1 ≤ j → j < s → okAt f j) := by
  have hsb := sizeOf_bd (f 0)
  obtain ⟨s, hs⟩ := Int.eq_ofNat_of_zero_le hsb.1
  have hle := fpN_le f (min s n)
  have hfp := fpN_FP f (min s n) (by omega)
  by_cases hA : 0 < s ∧ fpN f (min s n) = s
  · refine Or.inl ⟨s, hA.1, by omega, hs, ?_, dec_yes hn hs hA.1 hA.2⟩
    have := hfp.2.1
    rw [hA.2] at this
    exact this
  · by_cases hB : fpN f (min s n) = n ∧ fin = false
    · obtain ⟨hB, rfl⟩ := hB
      refine Or.inr (Or.inl ⟨rfl, ⟨s, by omega, by omega, hs⟩, ?_, dec_more hn hs hA hB⟩)
      have := hfp.2.1
      rw [hB] at this
      exact this
    · refine Or.inr (Or.inr ⟨dec_no hn hs hA hB, fun t h0 ht he hok => hA ?_⟩)
      have : t = s := by omega
      subst this
      refine ⟨h0, ?_⟩
      rw [Nat.min_eq_left ht]
      exact (fpN_full (by omega)).2 hok

theorem step_true {f : Nat → Int} {n : Nat} (hn : 0 < n) : (dec f n true).2.2 = false ∧ 1 ≤ stepN f n true ∧ stepN f n true ≤ n ∧ (dec f n true).2.1 = (stepN f n true : Int) := by
  unfold stepN
  rcases dec_cases f n true hn with ⟨s, h0, h1, _, _, e⟩ | ⟨e, _⟩ | ⟨e, _⟩
  · rw [e]; simp; omega
  · cases e
  · rw [e]; simp; omega
theorem step_false {f : Nat → Int} {n : Nat} (hn : 0 < n) (hm : (dec f n false).2.2 = false) : 1 ≤ stepN f n false ∧ stepN f n false ≤ n ∧ (dec f n false).2.1 = (stepN f n false : Int) := by
  unfold stepN
  rcases dec_cases f n false hn with ⟨s, h0, h1, _, _, e⟩ | ⟨_, _, _, e⟩ | ⟨e, _⟩
  · rw [e]; simp; omega
  · rw [e] at hm; cases hm
  · rw [e]; simp; omega

theorem ptsK_fuel : ∀ (k l : Nat) (f : Nat → Int) (n : Nat), n ≤ k → n ≤ l → ptsK k f n = ptsK l f n
  | 0, 0, _, _, _, _ => rfl
  | 0, l + 1, f, n, h, _ => by obtain rfl : n = 0 := by omega
                               simp [ptsK]
  | k + 1, 0, f, n, _, h => by obtain rfl : n = 0 := by omega
                               simp [ptsK]
  | k + 1, l + 1, f, n, h, h' => by
    unfold ptsK
    by_cases hn : n = 0
    · rw [if_pos hn, if_pos hn]
    · rw [if_neg hn, if_neg hn]
      have := step_true (f := f) (n := n) (by omega)
      rw [ptsK_fuel k l _ _ (by omega) (by omega)]
theorem restK_fuel : ∀ (k l : Nat) (f : Nat → Int) (n : Nat), n ≤ k → n ≤ l → restK k f n = restK l f n
  | 0, 0, _, _, _, _ => rfl
  | 0, l + 1, f, n, h, _ => by obtain rfl : n = 0 := by omega
                               simp [restK]
  | k + 1, 0, f, n, _, h => by obtain rfl : n = 0 := by omega
                               simp [restK]
  | k + 1, l + 1, f, n, h, h' => by
    unfold restK
    by_cases hn : n = 0
    · rw [if_pos hn, if_pos hn]
    · rw [if_neg hn, if_neg hn]
      by_cases hm : (dec f n false).2.2 = true
      · rw [if_pos hm, if_pos hm]
      · rw [if_neg hm, if_neg hm]
        have := step_false (f := f) (n := n) (by omega) (by simpa using hm)
        rw [restK_fuel k l _ _ (by omega) (by omega)]

theorem pts_zero (f : Nat → Int) : pts f 0 = [] := rfl
theorem pts_step (f : Nat → Int) {n : Nat} (hn : 0 < n) : pts f n = (dec f n true).1 :: pts (sh f (stepN f n true)) (n - stepN f n true) := by
  obtain ⟨k, rfl⟩ : ∃ k, n = k + 1 := ⟨n - 1, by omega⟩
  have := step_true (f := f) (n := k + 1) (by omega)
  show ptsK (k + 1) f (k + 1) = _
  unfold ptsK
  rw [if_neg (by omega)]
  unfold pts
  rw [ptsK_fuel k _ _ _ (by omega) (Nat.le_refl _)]
theorem rest_zero (f : Nat → Int) : rest f 0 = 0 := rfl
theorem rest_more (f : Nat → Int) {n : Nat} (hn : 0 < n) (hm : (dec f n false).2.2 = true) : rest f n = n := by
  obtain ⟨k, rfl⟩ : ∃ k, n = k + 1 := ⟨n - 1, by omega⟩
  show restK (k + 1) f (k + 1) = _
  unfold restK
  rw [if_neg (by omega), if_pos hm]
theorem rest_step (f : Nat → Int) {n : Nat} (hn : 0 < n) (hm : (dec f n false).2.2 = false) : rest f n = rest (sh f (stepN f n false)) (n - stepN f n false) := by
  obtain ⟨k, rfl⟩ : ∃ k, n = k + 1 := ⟨n - 1, by omega⟩
  have := step_false (f := f) (n := k + 1) (by omega) hm
  show restK (k + 1) f (k + 1) = _
  unfold restK
  rw [if_neg (by omega), if_neg (by rw [hm]; simp)]
  unfold rest
  rw [restK_fuel k _ _ _ (by omega) (Nat.le_refl _)]

theorem pts_len : ∀ (k n : Nat) (f : Nat → Int), n ≤ k → (pts f n).length ≤ n
  | 0, n, f, h => by obtain rfl : n = 0 := by omega
                     simp [pts_zero]
  | k + 1, n, f, h => by
    by_cases hn : n = 0
    · subst hn; simp [pts_zero]
    · have := step_true (f := f) (n := n) (by omega)
      rw [pts_step f (by omega)]
      have ih := pts_len k (n - stepN f n true) (sh f (stepN f n true)) (by omega)
      simp; omega

/-- Bytes none of which can be a first one. -/
theorem pts_tails : ∀ (k n : Nat) (f : Nat → Int), n ≤ k → (∀ i, i < n → tail f i) → pts f n = List.replicate n (-1)
  | 0, n, f, h, _ => by obtain rfl : n = 0 := by omega
                        simp [pts_zero]
  | k + 1, n, f, h, ht => by
    by_cases hn : n = 0
    · subst hn; simp [pts_zero]
    · have t0 := ht 0 (by omega)
      unfold tail at t0
      have e : dec f n true = (-1, 1, false) := dec_zero (by omega) (sizeOf_0 (by omega) (by omega))
      have e1 : stepN f n true = 1 := by unfold stepN; rw [e]; rfl
      rw [pts_step f (by omega), e1, e, pts_tails k (n - 1) (sh f 1) (by omega) (fun i hi => by
        have := ht (1 + i) (by omega)
        exact this)]
      obtain ⟨m, rfl⟩ : ∃ m, n = m + 1 := ⟨n - 1, by omega⟩
      rfl

/-- What is decided is so of a first part that holds it, as if nothing came behind. -/
theorem dec_prefix {f : Nat → Int} {m n : Nat} (h1 : 1 ≤ m) (hmn : m ≤ n) (hd : (dec f n false).2.2 = false) (hN : stepN f n false ≤ m) : dec f m true = dec f n false := by
  unfold stepN at hN
  rcases dec_cases f n false (by omega) with ⟨s, h0, hs1, hs, hok, e⟩ | ⟨_, _, _, e⟩ | ⟨e, hno⟩
  · rw [e] at hN ⊢
    simp at hN
    have := sizeOf_bd (f 0)
    exact (dec_full (by omega) (by omega) (by omega) hs).1 hok
  · rw [e] at hd; cases hd
  · rw [e]
    rcases dec_cases f m true h1 with ⟨s, h0, hs1, hs, hok, _⟩ | ⟨x, _⟩ | ⟨e', _⟩
    · exact absurd hok (hno s h0 (by omega) hs)
    · cases x
    · exact e'

theorem rest_le : ∀ (k n : Nat) (f : Nat → Int), n ≤ k → rest f n ≤ n ∧ rest f n < 4
  | 0, n, f, h => by obtain rfl : n = 0 := by omega
                     simp [rest_zero]
  | k + 1, n, f, h => by
    by_cases hn : n = 0
    · subst hn; simp [rest_zero]
    · cases hm : (dec f n false).2.2
      · have := step_false (f := f) (n := n) (by omega) hm
        have ih := rest_le k (n - stepN f n false) (sh f (stepN f n false)) (by omega)
        rw [rest_step f (by omega) hm]
        omega
      · rw [rest_more f (by omega) hm]
        rcases dec_cases f n false (by omega) with ⟨s, _, _, _, _, e⟩ | ⟨_, ⟨s, a, b, _⟩, _, _⟩ | ⟨e, _⟩
        · rw [e] at hm; cases hm
        · omega
        · rw [e] at hm; cases hm

/-- The points are those of the bytes ahead of the ones that need more, and then of none. -/
theorem pts_rest : ∀ (k n : Nat) (f : Nat → Int), n ≤ k → pts f n = pts f (n - rest f n) ++ List.replicate (rest f n) (-1)
  | 0, n, f, h => by obtain rfl : n = 0 := by omega
                     simp [rest_zero]
  | k + 1, n, f, h => by
    by_cases hn : n = 0
    · subst hn; simp [rest_zero]
    · cases hm : (dec f n false).2.2
      · have hs := step_false (f := f) (n := n) (by omega) hm
        have ih := pts_rest k (n - stepN f n false) (sh f (stepN f n false)) (by omega)
        have hr := rest_le k (n - stepN f n false) (sh f (stepN f n false)) (by omega)
        have er := rest_step f (n := n) (by omega) hm
        rw [← er] at ih hr
        have e1 : dec f n true = dec f n false := dec_prefix (by omega) (Nat.le_refl _) hm (by omega)
        have e2 : dec f (n - rest f n) true = dec f n false := dec_prefix (by omega) (by omega) hm (by omega)
        have n1 : stepN f n true = stepN f n false := by unfold stepN; rw [e1]
        have n2 : stepN f (n - rest f n) true = stepN f n false := by unfold stepN; rw [e2]
        rw [pts_step f (n := n) (by omega), n1, e1, ih, pts_step f (n := n - rest f n) (by omega), n2, e2]
        rw [show n - stepN f n false - rest f n = n - rest f n - stepN f n false by omega]
        rfl
      · rw [rest_more f (by omega) hm, Nat.sub_self, pts_zero, List.nil_append]
        rcases dec_cases f n false (by omega) with ⟨s, _, _, _, _, e⟩ | ⟨_, ⟨s, a, b, hs⟩, hok, _⟩ | ⟨e, _⟩
        · rw [e] at hm; cases hm
        · have e : dec f n true = (-1, 1, false) := (dec_part (by omega) (by omega) a hs).2.2
          have e1 : stepN f n true = 1 := by unfold stepN; rw [e]; rfl
          rw [pts_step f (by omega), e1, e, pts_tails (n - 1) (n - 1) (sh f 1) (Nat.le_refl _) (fun i hi => ?_)]
          · obtain ⟨m, rfl⟩ : ∃ m, n = m + 1 := ⟨n - 1, by omega⟩
            rfl
          · show tail f (1 + i)
            have := ((ok_all (f := f) (n := n) (by omega)).1 hok)
            by_cases hi0 : i = 0
            · subst hi0; exact tail_of_ok this.1
            · exact this.2 (1 + i) (by omega) (by omega)
        · rw [e] at hm; cases hm

end Go.Proofs.YtiheagkgpbkkfaaDoor.Utf
