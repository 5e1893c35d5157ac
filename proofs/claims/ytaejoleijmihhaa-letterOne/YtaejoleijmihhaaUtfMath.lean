/-
  Plain functions on bytes as integers, for the statements on package utf: no program is named here.
-/
namespace Go.Proofs.Ytaejoleijmihhaa.Utf

/-- How many bytes a code point has that begins with this byte; 0, if none does. -/
def sizeOf (c : Int) : Int := if c < 128 then 1 else if c < 194 then 0 else if c < 224 then 2 else if c < 240 then 3 else if c < 245 then 4 else 0
def lo2 (c : Int) : Int := if c = 224 then 160 else if c = 240 then 144 else 128
def hi2 (c : Int) : Int := if c = 237 then 159 else if c = 244 then 143 else 191
def isPt (n : Int) : Bool := decide (0 ≤ n) && decide (n ≤ 1114111) && (decide (n < 55296) || decide (57343 < n))
/-- The reference's size of a first byte. -/
def long (c : Int) : Int := if c < 128 then 1 else if 192 ≤ c ∧ c < 224 then 2 else if 224 ≤ c ∧ c < 240 then 3 else if 240 ≤ c ∧ c < 248 then 4 else 0

theorem sizeOf_1 {c : Int} (h : c < 128) : sizeOf c = 1 := by unfold sizeOf; rw [if_pos h]
theorem sizeOf_0 {c : Int} (h : 128 ≤ c) (h' : c < 194) : sizeOf c = 0 := by unfold sizeOf; rw [if_neg (by omega), if_pos h']
theorem sizeOf_2 {c : Int} (h : 194 ≤ c) (h' : c < 224) : sizeOf c = 2 := by unfold sizeOf; rw [if_neg (by omega), if_neg (by omega), if_pos h']
theorem sizeOf_3 {c : Int} (h : 224 ≤ c) (h' : c < 240) : sizeOf c = 3 := by unfold sizeOf; rw [if_neg (by omega), if_neg (by omega), if_neg (by omega), if_pos h']
theorem sizeOf_4 {c : Int} (h : 240 ≤ c) (h' : c < 245) : sizeOf c = 4 := by unfold sizeOf; rw [if_neg (by omega), if_neg (by omega), if_neg (by omega), if_neg (by omega), if_pos h']
theorem sizeOf_5 {c : Int} (h : 245 ≤ c) : sizeOf c = 0 := by unfold sizeOf; rw [if_neg (by omega), if_neg (by omega), if_neg (by omega), if_neg (by omega), if_neg (by omega)]

/-- Bytes are told by a function: f i is the byte at place i. -/
def lo (f : Nat → Int) (j : Nat) : Int := if j = 1 then lo2 (f 0) else 128
def hi (f : Nat → Int) (j : Nat) : Int := if j = 1 then hi2 (f 0) else 191
def okAt (f : Nat → Int) (j : Nat) : Prop := lo f j ≤ f j ∧ f j ≤ hi f j
/-- k is how many first bytes are a first part of a code point's n bytes. -/
def FP (f : Nat → Int) (n k : Nat) : Prop := k ≤ n ∧ (∀ j, 1 ≤ j → j < k → okAt f j) ∧ (k < n → 1 ≤ k ∧ ¬ okAt f k)

theorem okAt_one {f : Nat → Int} : okAt f 1 ↔ lo2 (f 0) ≤ f 1 ∧ f 1 ≤ hi2 (f 0) := by simp [okAt, lo, hi]
theorem okAt_more {f : Nat → Int} {j : Nat} (h : j ≠ 1) : okAt f j ↔ 128 ≤ f j ∧ f j ≤ 191 := by simp [okAt, lo, hi, h]
theorem fp_stop1 {f : Nat → Int} {m : Nat} (hm : 1 < m) (h : f 1 < lo2 (f 0) ∨ hi2 (f 0) < f 1) : FP f m 1 :=
  ⟨by omega, fun j a b => absurd b (by omega), fun _ => ⟨by omega, fun o => by rw [okAt_one] at o; omega⟩⟩
theorem fp_stop {f : Nat → Int} {m k : Nat} (h1 : 1 ≤ k) (hm : k < m) (hk : k ≠ 1) (hr : ∀ j, 1 ≤ j → j < k → okAt f j) (h : f k < 128 ∨ 191 < f k) : FP f m k :=
  ⟨by omega, hr, fun _ => ⟨by omega, fun o => by rw [okAt_more hk] at o; omega⟩⟩
theorem ok_snoc {f : Nat → Int} {k : Nat} (hr : ∀ j, 1 ≤ j → j < k → okAt f j) (h : okAt f k) : ∀ j, 1 ≤ j → j < k + 1 → okAt f j := fun j a b => by
  by_cases e : j = k
  · subst e; exact h
  · exact hr j a (by omega)
theorem fp_end {f : Nat → Int} {m k : Nat} (hk : m ≤ k) (hr : ∀ j, 1 ≤ j → j < k → okAt f j) : FP f m m :=
  ⟨Nat.le_refl _, fun j a b => hr j a (by omega), fun h => absurd h (by omega)⟩

/-- A code point's bits: p ahead, then six of each of the k bytes behind the first one. -/
def jn (p : Int) (f : Nat → Int) : Nat → Int
  | 0 => p
  | k + 1 => 64 * jn p f k + f (k + 1) % 64
/-- What the first of n bytes tells. -/
def p0 (n : Nat) (c : Int) : Int := if n = 1 then c else if n = 2 then c % 32 else if n = 3 then c % 16 else c % 8
theorem p0_bd (n : Nat) (c : Int) (h0 : 0 ≤ c) (h1 : c ≤ 255) : 0 ≤ p0 n c ∧ p0 n c ≤ 255 := by
  unfold p0; split
  · omega
  · split
    · omega
    · split <;> omega
theorem jn_bd (p : Int) (f : Nat → Int) (h0 : 0 ≤ p) (h1 : p ≤ 255) : ∀ k, k ≤ 3 → 0 ≤ jn p f k ∧ jn p f k ≤ 67108863
  | 0, _ => by simp only [jn]; omega
  | 1, _ => by simp only [jn]; omega
  | 2, _ => by simp only [jn]; omega
  | 3, _ => by simp only [jn]; omega
  | k + 4, h => absurd h (by omega)

def okB (f : Nat → Int) (j : Nat) : Bool := decide (lo f j ≤ f j) && decide (f j ≤ hi f j)
theorem okB_iff (f : Nat → Int) (j : Nat) : okB f j = true ↔ okAt f j := by simp [okB, okAt]
/-- How many first bytes are a first part of n bytes: n is at most 4. -/
def fpN (f : Nat → Int) (n : Nat) : Nat :=
  if n ≤ 1 then n else if okB f 1 = false then 1 else if n = 2 then 2 else if okB f 2 = false then 2 else if n = 3 then 3 else if okB f 3 = false then 3 else 4
theorem fp_eq (f : Nat → Int) (n k : Nat) (hn : n ≤ 4) (h : FP f n k) : k = fpN f n := by
  obtain ⟨h1, h2, h3⟩ := h
  have b : ∀ j, okB f j = false ↔ ¬ okAt f j := fun j => by rw [← okB_iff]; simp
  simp only [← b] at h3
  simp only [← okB_iff] at h2
  have g1 := h2 1; have g2 := h2 2; have g3 := h2 3
  clear h2 b
  unfold fpN
  (obtain rfl | rfl | rfl | rfl | rfl : n = 0 ∨ n = 1 ∨ n = 2 ∨ n = 3 ∨ n = 4 := by omega) <;>
    (obtain rfl | rfl | rfl | rfl | rfl : k = 0 ∨ k = 1 ∨ k = 2 ∨ k = 3 ∨ k = 4 := by omega) <;>
    cases c1 : okB f 1 <;> cases c2 : okB f 2 <;> cases c3 : okB f 3 <;> first | rfl | (exfalso; simp_all; done) | simp_all
theorem fpN_le (f : Nat → Int) (n : Nat) : fpN f n ≤ n := by
  unfold fpN
  split
  · omega
  · split
    · omega
    · split
      · omega
      · split
        · omega
        · split
          · omega
          · split <;> omega
/-- With which code point n bytes begin: the point, how many bytes, whether more are needed. -/
def dec (f : Nat → Int) (n : Nat) (fin : Bool) : Int × Int × Bool :=
  if n = 0 then (-1, 0, true) else
    if 0 < (sizeOf (f 0)).toNat ∧ fpN f (min (sizeOf (f 0)).toNat n) = (sizeOf (f 0)).toNat then (jn (p0 (sizeOf (f 0)).toNat (f 0)) f ((sizeOf (f 0)).toNat - 1), sizeOf (f 0), false)
    else if fpN f (min (sizeOf (f 0)).toNat n) = n ∧ fin = false then (-1, 0, true) else (-1, 1, false)
theorem dec_yes {f : Nat → Int} {n s : Nat} {fin : Bool} (hn : 0 < n) (hs : sizeOf (f 0) = s) (h0 : 0 < s) (hk : fpN f (min s n) = s) : dec f n fin = (jn (p0 s (f 0)) f (s - 1), (s : Int), false) := by
  unfold dec
  rw [if_neg (by omega), hs, Int.toNat_natCast, if_pos ⟨h0, hk⟩]
theorem dec_more {f : Nat → Int} {n s : Nat} (hn : 0 < n) (hs : sizeOf (f 0) = s) (h : ¬ (0 < s ∧ fpN f (min s n) = s)) (hk : fpN f (min s n) = n) : dec f n false = (-1, 0, true) := by
  unfold dec
  rw [if_neg (by omega), hs, Int.toNat_natCast, if_neg h, if_pos ⟨hk, rfl⟩]
theorem dec_no {f : Nat → Int} {n s : Nat} {fin : Bool} (hn : 0 < n) (hs : sizeOf (f 0) = s) (h : ¬ (0 < s ∧ fpN f (min s n) = s)) (hk : ¬ (fpN f (min s n) = n ∧ fin = false)) : dec f n fin = (-1, 1, false) := by
  unfold dec
  rw [if_neg (by omega), hs, Int.toNat_natCast, if_neg h, if_neg hk]
theorem sizeOf_bd (c : Int) : 0 ≤ sizeOf c ∧ sizeOf c ≤ 4 := by
  unfold sizeOf
  split
  · omega
  · split
    · omega
    · split
      · omega
      · split
        · omega
        · split <;> omega

theorem fpN_FP (f : Nat → Int) (n : Nat) (hn : n ≤ 4) : FP f n (fpN f n) := by
  have h : ∀ j, okB f j = false → ¬ okAt f j := fun j e o => by rw [← okB_iff, e] at o; cases o
  unfold fpN
  by_cases h1 : n ≤ 1
  · rw [if_pos h1]
    exact ⟨Nat.le_refl _, fun j a b => absurd b (by omega), fun a => absurd a (by omega)⟩
  · rw [if_neg h1]
    cases c1 : okB f 1
    · rw [if_pos rfl]
      exact ⟨by omega, fun j a b => absurd b (by omega), fun _ => ⟨by omega, h 1 c1⟩⟩
    · rw [if_neg (by simp)]
      have o1 : ∀ j, 1 ≤ j → j < 2 → okAt f j := fun j a b => by
        obtain rfl : j = 1 := by omega
        exact (okB_iff f 1).1 c1
      by_cases h2 : n = 2
      · subst h2; rw [if_pos rfl]
        exact ⟨by omega, o1, fun a => absurd a (by omega)⟩
      · rw [if_neg h2]
        cases c2 : okB f 2
        · rw [if_pos rfl]
          exact ⟨by omega, o1, fun _ => ⟨by omega, h 2 c2⟩⟩
        · rw [if_neg (by simp)]
          have o2 := ok_snoc o1 ((okB_iff f 2).1 c2)
          by_cases h3 : n = 3
          · subst h3; rw [if_pos rfl]
            exact ⟨by omega, o2, fun a => absurd a (by omega)⟩
          · rw [if_neg h3]
            obtain rfl : n = 4 := by omega
            cases c3 : okB f 3
            · rw [if_pos rfl]
              exact ⟨by omega, o2, fun _ => ⟨by omega, h 3 c3⟩⟩
            · rw [if_neg (by simp)]
              exact ⟨by omega, ok_snoc o2 ((okB_iff f 3).1 c3), fun a => absurd a (by omega)⟩

/-- What two rows have in common at the front. -/
theorem okAt_congr {f g : Nat → Int} {n j : Nat} (h : ∀ i, i < n → f i = g i) (hj : j < n) : okAt f j ↔ okAt g j := by
  unfold okAt lo hi
  rw [h j hj, h 0 (by omega)]
theorem FP_congr {f g : Nat → Int} {n k : Nat} (h : ∀ i, i < n → f i = g i) (hf : FP f n k) : FP g n k :=
  ⟨hf.1, fun j a b => (okAt_congr h (Nat.lt_of_lt_of_le b hf.1)).1 (hf.2.1 j a b), fun a => ⟨(hf.2.2 a).1, fun o => (hf.2.2 a).2 ((okAt_congr h a).2 o)⟩⟩
theorem fpN_congr {f g : Nat → Int} {n : Nat} (hn : n ≤ 4) (h : ∀ i, i < n → f i = g i) : fpN f n = fpN g n := fp_eq g n _ hn (FP_congr h (fpN_FP f n hn))
/-- Bytes that end before all that might be there are known to. -/
theorem fpN_stop {f g : Nat → Int} {n m : Nat} (hm : m ≤ 4) (hnm : n ≤ m) (h : ∀ i, i < n → f i = g i) (hk : fpN f n < n) : fpN g m = fpN f n := by
  have hf := fpN_FP f n (by omega)
  refine (fp_eq g m _ hm ⟨by omega, fun j a b => (okAt_congr h (by omega)).1 (hf.2.1 j a b), fun _ => ⟨(hf.2.2 hk).1, fun o => (hf.2.2 hk).2 ((okAt_congr h hk).2 o)⟩⟩).symm
theorem jn_congr {f g : Nat → Int} {p : Int} {n : Nat} (h : ∀ i, i < n → f i = g i) : ∀ k, k < n → jn p f k = jn p g k
  | 0, _ => rfl
  | k + 1, hk => by simp only [jn]; rw [jn_congr h k (by omega), h (k + 1) hk]

/-- What is decided of bytes stays, whatever comes behind them. -/
theorem dec_stays {f g : Nat → Int} {n m : Nat} (hnm : n ≤ m) (h : ∀ i, i < n → f i = g i) (hd : (dec f n false).2.2 = false) : dec g m false = dec f n false := by
  by_cases hn : n = 0
  · subst hn; exact absurd hd (by simp [dec])
  have h0 := h 0 (by omega)
  have hsb := sizeOf_bd (f 0)
  obtain ⟨s, hs⟩ := Int.eq_ofNat_of_zero_le hsb.1
  have hs' : sizeOf (g 0) = (s : Int) := by rw [← h0]; exact hs
  have hle := fpN_le f (min s n)
  by_cases hA : 0 < s ∧ fpN f (min s n) = s
  · have e : fpN g (min s m) = s := by
      rw [show min s m = min s n by omega, ← fpN_congr (f := f) (by omega) (fun i hi => h i (by omega))]; exact hA.2
    rw [dec_yes (by omega) hs hA.1 hA.2, dec_yes (by omega) hs' hA.1 e, h0, jn_congr (f := f) (n := n) h _ (by omega)]
  · by_cases hB : fpN f (min s n) = n
    · rw [dec_more (by omega) hs hA hB] at hd; cases hd
    · have e : fpN g (min s m) = fpN f (min s n) := by
        by_cases hc : s ≤ n
        · rw [show min s m = min s n by omega]
          exact (fpN_congr (by omega) (fun i hi => h i (by omega))).symm
        · exact fpN_stop (by omega) (by omega) (fun i hi => h i (by omega)) (by omega)
      rw [dec_no (by omega) hs hA (fun x => hB x.1), dec_no (by omega) hs' (by rw [e]; exact hA) (fun x => by have := x.1; omega)]

/-- The reference's bits: what n bytes tell, told with no look at what may be. -/
def jr (p : Int) (f : Nat → Int) : Nat → Int
  | 0 => p
  | k + 1 => 64 * jr p f k + f (k + 1) - 128
def base (n : Nat) : Int := if n = 1 then 0 else if n = 2 then 192 else if n = 3 then 224 else 240
def tail (f : Nat → Int) (j : Nat) : Prop := 128 ≤ f j ∧ f j ≤ 191
theorem jr_bd (p : Int) (f : Nat → Int) (h0 : -256 ≤ p) (h1 : p ≤ 255) (hf : ∀ i, 0 ≤ f i ∧ f i ≤ 255) : ∀ k, k ≤ 3 → -134217728 ≤ jr p f k ∧ jr p f k ≤ 134217728
  | 0, _ => by simp only [jr]; omega
  | 1, _ => by have := hf (0 + 1); simp only [jr]; omega
  | 2, _ => by have := hf (0 + 1); have := hf (1 + 1); simp only [jr]; omega
  | 3, _ => by have := hf (0 + 1); have := hf (1 + 1); have := hf (2 + 1); simp only [jr]; omega
  | k + 4, h => absurd h (by omega)
/-- What 'bits' answers. -/
def BR (f : Nat → Int) (n : Nat) (r : Int) : Prop := (∃ j, 1 ≤ j ∧ j < n ∧ ¬ tail f j) ∧ r = -1 ∨ (∀ j, 1 ≤ j → j < n → tail f j) ∧ r = jr (f 0 - base n) f (n - 1)

/-- A code point's bytes. -/
def encN (p : Int) : Nat := if p < 128 then 1 else if p < 2048 then 2 else if p < 65536 then 3 else 4
def encL (p : Int) : List Int := if p < 128 then [p] else if p < 2048 then [192 + p / 64, 128 + p % 64] else if p < 65536 then [224 + p / 4096, 128 + p / 64 % 64, 128 + p % 64] else [240 + p / 262144, 128 + p / 4096 % 64, 128 + p / 64 % 64, 128 + p % 64]
def encF (p : Int) (i : Nat) : Int := (encL p).getD i 0
theorem enc_1 {p : Int} (h : p < 128) : encN p = 1 ∧ encL p = [p] := by unfold encN encL; rw [if_pos h, if_pos h]; exact ⟨rfl, rfl⟩
theorem enc_2 {p : Int} (h : 128 ≤ p) (h' : p < 2048) : encN p = 2 ∧ encL p = [192 + p / 64, 128 + p % 64] := by
  unfold encN encL; rw [if_neg (by omega), if_pos h', if_neg (by omega), if_pos h']; exact ⟨rfl, rfl⟩
theorem enc_3 {p : Int} (h : 2048 ≤ p) (h' : p < 65536) : encN p = 3 ∧ encL p = [224 + p / 4096, 128 + p / 64 % 64, 128 + p % 64] := by
  unfold encN encL; rw [if_neg (by omega), if_neg (by omega), if_pos h', if_neg (by omega), if_neg (by omega), if_pos h']; exact ⟨rfl, rfl⟩
theorem enc_4 {p : Int} (h : 65536 ≤ p) : encN p = 4 ∧ encL p = [240 + p / 262144, 128 + p / 4096 % 64, 128 + p / 64 % 64, 128 + p % 64] := by
  unfold encN encL; rw [if_neg (by omega), if_neg (by omega), if_neg (by omega), if_neg (by omega), if_neg (by omega), if_neg (by omega)]; exact ⟨rfl, rfl⟩
theorem isPt_iff (p : Int) : isPt p = true ↔ 0 ≤ p ∧ p ≤ 1114111 ∧ (p < 55296 ∨ 57343 < p) := by simp [isPt, and_assoc]
theorem encF_bd (p : Int) (h0 : 0 ≤ p) (h1 : p ≤ 1114111) (i : Nat) : 0 ≤ encF p i ∧ encF p i ≤ 255 := by
  have key : ∀ l : List Int, (∀ x ∈ l, 0 ≤ x ∧ x ≤ 255) → 0 ≤ l.getD i 0 ∧ l.getD i 0 ≤ 255 := fun l hl => by
    rw [List.getD_eq_getElem?_getD]
    by_cases hi : i < l.length
    · rw [List.getElem?_eq_getElem hi]; exact hl _ (List.getElem_mem hi)
    · rw [List.getElem?_eq_none (by omega)]; simp
  refine key _ ?_
  by_cases a : p < 128
  · rw [(enc_1 a).2]; simp; omega
  · by_cases b : p < 2048
    · rw [(enc_2 (by omega) b).2]; simp; omega
    · by_cases c : p < 65536
      · rw [(enc_3 (by omega) c).2]; simp; omega
      · rw [(enc_4 (by omega)).2]; simp; omega

end Go.Proofs.Ytaejoleijmihhaa.Utf
