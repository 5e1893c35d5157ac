/-
  Several texts in one: UtfMath, UtfBits, UtfW1, UtfW2, UtfW3, UtfW4, UtfW6, UtfMathB, UtfMathC, UtfMathD, UtfE.
-/
import Derived.Laws.BitsAllLaws
import Derived.Laws.Bits128
import Derived.Test.YtecbmonbeogdjaaDoorChecked
import Derived.Test.YtecbmonbeogdjaaDoorLotA
/-
  Plain functions on bytes as integers, for the statements on package utf: no program is named here.
-/
namespace Go.Proofs.YtecbmonbeogdjaaDoor.Utf

/-- How many bytes a code point has that begins with this byte; 0, if none does. -/
def sizeOf (c : Int) : Int := if c < 128 then 1 else if c < 194 then 0 else if c < 224 then 2 else if c < 240 then 3 else if c < 245 then 4 else 0
def lo2 (c : Int) : Int := if c = 224 then 160 else if c = 240 then 144 else 128
def hi2 (c : Int) : Int := if c = 237 then 159 else if c = 244 then 143 else 191
def isPt (n : Int) : Bool := decide (0 ≤ n) && decide (n ≤ 1114111) && (decide (n < 55296) || decide (57343 < n))
/-- The reference's size of a first byte. -/
def long (c : Int) : Int := if c < 128 then 1 else if 192 ≤ c ∧ c < 224 then 2 else if 224 ≤ c ∧ c < 240 then 3 else if 240 ≤ c ∧ c < 248 then 4 else 0

theorem sizeOf_1 {c : Int} (h : c < 128) : sizeOf c = 1 := by unfold sizeOf; rw [if_pos h]
theorem sizeOf_0 {c : Int} (h : 128 ≤ c) (h' : c < 194) : sizeOf c = 0 := by unfold sizeOf; rw [if_neg (by omega), if_pos h']
theorem sizeOf_2 {c : Int} (h : 194 ≤ c) (h' : c < 224) : sizeOf c = 2 := by unfold sizeOf; rw [if_neg (by omega), if_neg (by omega), if_pos h']
theorem sizeOf_3 {c : Int} (h : 224 ≤ c) (h' : c < 240) : sizeOf c = 3 := by unfold sizeOf; rw [if_neg (by omega), if_neg (by omega), if_neg (by omega), if_pos h']
theorem sizeOf_4 {c : Int} (h : 240 ≤ c) (h' : c < 245) : sizeOf c = 4 := by unfold sizeOf; rw [if_neg (by omega), if_neg (by omega), if_neg (by omega), if_neg (by omega), if_pos h']
theorem sizeOf_5 {c : Int} (h : 245 ≤ c) : sizeOf c = 0 := by unfold sizeOf; rw [if_neg (by omega), if_neg (by omega), if_neg (by omega), if_neg (by omega), if_neg (by omega)]

/-- Bytes are told by a function: f i is the byte at place i. -/
def lo (f : Nat → Int) (j : Nat) : Int := if j = 1 then lo2 (f 0) else 128
def hi (f : Nat → Int) (j : Nat) : Int := if j = 1 then hi2 (f 0) else 191
def okAt (f : Nat → Int) (j : Nat) : Prop := lo f j ≤ f j ∧ f j ≤ hi f j
/-- k is how many first bytes are a first part of a code point's n bytes. -/
def FP (f : Nat → Int) (n k : Nat) : Prop := k ≤ n ∧ (∀ j, 1 ≤ j → j < k → okAt f j) ∧ (k < n → 1 ≤ k ∧ ¬ okAt f k)

theorem okAt_one {f : Nat → Int} : okAt f 1 ↔ lo2 (f 0) ≤ f 1 ∧ f 1 ≤ hi2 (f 0) := by simp [okAt, lo, hi]
theorem okAt_more {f : Nat → Int} {j : Nat} (h : j ≠ 1) : okAt f j ↔ 128 ≤ f j ∧ f j ≤ 191 := by simp [okAt, lo, hi, h]
theorem fp_stop1 {f : Nat → Int} {m : Nat} (hm : 1 < m) (h : f 1 < lo2 (f 0) ∨ hi2 (f 0) < f 1) : FP f m 1 :=
  ⟨by omega, fun j a b => absurd b (by omega), fun _ => ⟨by omega, fun o => by rw [okAt_one] at o; omega⟩⟩
theorem fp_stop {f : Nat → Int} {m k : Nat} (h1 : 1 ≤ k) (hm : k < m) (hk : k ≠ 1) (hr : ∀ j, 1 ≤ j → j < k → okAt f j) (h : f k < 128 ∨ 191 < f k) : FP f m k :=
  ⟨by omega, hr, fun _ => ⟨by omega, fun o => by rw [okAt_more hk] at o; omega⟩⟩
theorem ok_snoc {f : Nat → Int} {k : Nat} (hr : ∀ j, 1 ≤ j → j < k → okAt f j) (h : okAt f k) : ∀ j, 1 ≤ j → j < k + 1 → okAt f j := fun j a b => by
  by_cases e : j = k
  · subst e; exact h
  · exact hr j a (by omega)
theorem fp_end {f : Nat → Int} {m k : Nat} (hk : m ≤ k) (hr : ∀ j, 1 ≤ j → j < k → okAt f j) : FP f m m :=
  ⟨Nat.le_refl _, fun j a b => hr j a (by omega), fun h => absurd h (by omega)⟩

/-- A code point's bits: p ahead, then six of each of the k bytes behind the first one. -/
def jn (p : Int) (f : Nat → Int) : Nat → Int
  | 0 => p
  | k + 1 => 64 * jn p f k + f (k + 1) % 64
/-- What the first of n bytes tells. -/
def p0 (n : Nat) (c : Int) : Int := if n = 1 then c else if n = 2 then c % 32 else if n = 3 then c % 16 else c % 8
theorem p0_bd (n : Nat) (c : Int) (h0 : 0 ≤ c) (h1 : c ≤ 255) : 0 ≤ p0 n c ∧ p0 n c ≤ 255 := by
  unfold p0; split
  · omega
  · split
    · omega
    · split <;> omega
theorem jn_bd (p : Int) (f : Nat → Int) (h0 : 0 ≤ p) (h1 : p ≤ 255) : ∀ k, k ≤ 3 → 0 ≤ jn p f k ∧ jn p f k ≤ 67108863
  | 0, _ => by simp only [jn]; omega
  | 1, _ => by simp only [jn]; omega
  | 2, _ => by simp only [jn]; omega
  | 3, _ => by simp only [jn]; omega
  | k + 4, h => absurd h (by omega)

def okB (f : Nat → Int) (j : Nat) : Bool := decide (lo f j ≤ f j) && decide (f j ≤ hi f j)
theorem okB_iff (f : Nat → Int) (j : Nat) : okB f j = true ↔ okAt f j := by simp [okB, okAt]
/-- How many first bytes are a first part of n bytes: n is at most 4. -/
def fpN (f : Nat → Int) (n : Nat) : Nat :=
  if n ≤ 1 then n else if okB f 1 = false then 1 else if n = 2 then 2 else if okB f 2 = false then 2 else if n = 3 then 3 else if okB f 3 = false then 3 else 4
theorem fp_eq (f : Nat → Int) (n k : Nat) (hn : n ≤ 4) (h : FP f n k) : k = fpN f n := by
  obtain ⟨h1, h2, h3⟩ := h
  have b : ∀ j, okB f j = false ↔ ¬ okAt f j := fun j => by rw [← okB_iff]; simp
  simp only [← b] at h3
  simp only [← okB_iff] at h2
  have g1 := h2 1; have g2 := h2 2; have g3 := h2 3
  clear h2 b
  unfold fpN
  (obtain rfl | rfl | rfl | rfl | rfl : n = 0 ∨ n = 1 ∨ n = 2 ∨ n = 3 ∨ n = 4 := by omega) <;>
    (obtain rfl | rfl | rfl | rfl | rfl : k = 0 ∨ k = 1 ∨ k = 2 ∨ k = 3 ∨ k = 4 := by omega) <;>
    cases c1 : okB f 1 <;> cases c2 : okB f 2 <;> cases c3 : okB f 3 <;> first | rfl | (exfalso; simp_all; done) | simp_all
theorem fpN_le (f : Nat → Int) (n : Nat) : fpN f n ≤ n := by
  unfold fpN
  split
  · omega
  · split
    · omega
    · split
      · omega
      · split
        · omega
        · split
          · omega
          · split <;> omega
/-- With which code point n bytes begin: the point, how many bytes, whether more are needed. -/
def dec (f : Nat → Int) (n : Nat) (fin : Bool) : Int × Int × Bool :=
  if n = 0 then (-1, 0, true) else
    if 0 < (sizeOf (f 0)).toNat ∧ fpN f (min (sizeOf (f 0)).toNat n) = (sizeOf (f 0)).toNat then (jn (p0 (sizeOf (f 0)).toNat (f 0)) f ((sizeOf (f 0)).toNat - 1), sizeOf (f 0), false)
    else if fpN f (min (sizeOf (f 0)).toNat n) = n ∧ fin = false then (-1, 0, true) else (-1, 1, false)
theorem dec_yes {f : Nat → Int} {n s : Nat} {fin : Bool} (hn : 0 < n) (hs : sizeOf (f 0) = s) (h0 : 0 < s) (hk : fpN f (min s n) = s) : dec f n fin = (jn (p0 s (f 0)) f (s - 1), (s : Int), false) := by
  unfold dec
  rw [if_neg (by omega), hs, Int.toNat_natCast, if_pos ⟨h0, hk⟩]
theorem dec_more {f : Nat → Int} {n s : Nat} (hn : 0 < n) (hs : sizeOf (f 0) = s) (h : ¬ (0 < s ∧ fpN f (min s n) = s)) (hk : fpN f (min s n) = n) : dec f n false = (-1, 0, true) := by
  unfold dec
  rw [if_neg (by omega), hs, Int.toNat_natCast, if_neg h, if_pos ⟨hk, rfl⟩]
theorem dec_no {f : Nat → Int} {n s : Nat} {fin : Bool} (hn : 0 < n) (hs : sizeOf (f 0) = s) (h : ¬ (0 < s ∧ fpN f (min s n) = s)) (hk : ¬ (fpN f (min s n) = n ∧ fin = false)) : dec f n fin = (-1, 1, false) := by
  unfold dec
  rw [if_neg (by omega), hs, Int.toNat_natCast, if_neg h, if_neg hk]
theorem sizeOf_bd (c : Int) : 0 ≤ sizeOf c ∧ sizeOf c ≤ 4 := by
  unfold sizeOf
  split
  · omega
  · split
    · omega
    · split
      · omega
      · split
        · omega
        · split <;> omega

theorem fpN_FP (f : Nat → Int) (n : Nat) (hn : n ≤ 4) : FP f n (fpN f n) := by
  have h : ∀ j, okB f j = false → ¬ okAt f j := fun j e o => by rw [← okB_iff, e] at o; cases o
  unfold fpN
  by_cases h1 : n ≤ 1
  · rw [if_pos h1]
    exact ⟨Nat.le_refl _, fun j a b => absurd b (by omega), fun a => absurd a (by omega)⟩
  · rw [if_neg h1]
    cases c1 : okB f 1
    · rw [if_pos rfl]
      exact ⟨by omega, fun j a b => absurd b (by omega), fun _ => ⟨by omega, h 1 c1⟩⟩
    · rw [if_neg (by simp)]
      have o1 : ∀ j, 1 ≤ j → j < 2 → okAt f j := fun j a b => by
        obtain rfl : j = 1 := by omega
        exact (okB_iff f 1).1 c1
      by_cases h2 : n = 2
      · subst h2; rw [if_pos rfl]
        exact ⟨by omega, o1, fun a => absurd a (by omega)⟩
      · rw [if_neg h2]
        cases c2 : okB f 2
        · rw [if_pos rfl]
          exact ⟨by omega, o1, fun _ => ⟨by omega, h 2 c2⟩⟩
        · rw [if_neg (by simp)]
          have o2 := ok_snoc o1 ((okB_iff f 2).1 c2)
          by_cases h3 : n = 3
          · subst h3; rw [if_pos rfl]
            exact ⟨by omega, o2, fun a => absurd a (by omega)⟩
          · rw [if_neg h3]
            obtain rfl : n = 4 := by omega
            cases c3 : okB f 3
            · rw [if_pos rfl]
              exact ⟨by omega, o2, fun _ => ⟨by omega, h 3 c3⟩⟩
            · rw [if_neg (by simp)]
              exact ⟨by omega, ok_snoc o2 ((okB_iff f 3).1 c3), fun a => absurd a (by omega)⟩

/-- What two rows have in common at the front. -/
theorem okAt_congr {f g : Nat → Int} {n j : Nat} (h : ∀ i, i < n → f i = g i) (hj : j < n) : okAt f j ↔ okAt g j := by
  unfold okAt lo hi
  rw [h j hj, h 0 (by omega)]
theorem FP_congr {f g : Nat → Int} {n k : Nat} (h : ∀ i, i < n → f i = g i) (hf : FP f n k) : FP g n k :=
  ⟨hf.1, fun j a b => (okAt_congr h (Nat.lt_of_lt_of_le b hf.1)).1 (hf.2.1 j a b), fun a => ⟨(hf.2.2 a).1, fun o => (hf.2.2 a).2 ((okAt_congr h a).2 o)⟩⟩
theorem fpN_congr {f g : Nat → Int} {n : Nat} (hn : n ≤ 4) (h : ∀ i, i < n → f i = g i) : fpN f n = fpN g n := fp_eq g n _ hn (FP_congr h (fpN_FP f n hn))
/-- Bytes that end before all that might be there are known to. -/
theorem fpN_stop {f g : Nat → Int} {n m : Nat} (hm : m ≤ 4) (hnm : n ≤ m) (h : ∀ i, i < n → f i = g i) (hk : fpN f n < n) : fpN g m = fpN f n := by
  have hf := fpN_FP f n (by omega)
  refine (fp_eq g m _ hm ⟨by omega, fun j a b => (okAt_congr h (by omega)).1 (hf.2.1 j a b), fun _ => ⟨(hf.2.2 hk).1, fun o => (hf.2.2 hk).2 ((okAt_congr h hk).2 o)⟩⟩).symm
theorem jn_congr {f g : Nat → Int} {p : Int} {n : Nat} (h : ∀ i, i < n → f i = g i) : ∀ k, k < n → jn p f k = jn p g k
  | 0, _ => rfl
  | k + 1, hk => by simp only [jn]; rw [jn_congr h k (by omega), h (k + 1) hk]

/-- What is decided of bytes stays, whatever comes behind them. -/
theorem dec_stays {f g : Nat → Int} {n m : Nat} (hnm : n ≤ m) (h : ∀ i, i < n → f i = g i) (hd : (dec f n false).2.2 = false) : dec g m false = dec f n false := by
  by_cases hn : n = 0
  · subst hn; exact absurd hd (by simp [dec])
  have h0 := h 0 (by omega)
  have hsb := sizeOf_bd (f 0)
  obtain ⟨s, hs⟩ := Int.eq_ofNat_of_zero_le hsb.1
  have hs' : sizeOf (g 0) = (s : Int) := by rw [← h0]; exact hs
  have hle := fpN_le f (min s n)
  by_cases hA : 0 < s ∧ fpN f (min s n) = s
  · have e : fpN g (min s m) = s := by
      rw [show min s m = min s n by omega, ← fpN_congr (f := f) (by omega) (fun i hi => h i (by omega))]; exact hA.2
    rw [dec_yes (by omega) hs hA.1 hA.2, dec_yes (by omega) hs' hA.1 e, h0, jn_congr (f := f) (n := n) h _ (by omega)]
  · by_cases hB : fpN f (min s n) = n
    · rw [dec_more (by omega) hs hA hB] at hd; cases hd
    · have e : fpN g (min s m) = fpN f (min s n) := by
        by_cases hc : s ≤ n
        · rw [show min s m = min s n by omega]
          exact (fpN_congr (by omega) (fun i hi => h i (by omega))).symm
        · exact fpN_stop (by omega) (by omega) (fun i hi => h i (by omega)) (by omega)
      rw [dec_no (by omega) hs hA (fun x => hB x.1), dec_no (by omega) hs' (by rw [e]; exact hA) (fun x => by have := x.1; omega)]

/-- The reference's bits: what n bytes tell, told with no look at what may be. -/
def jr (p : Int) (f : Nat → Int) : Nat → Int
  | 0 => p
  | k + 1 => 64 * jr p f k + f (k + 1) - 128
def base (n : Nat) : Int := if n = 1 then 0 else if n = 2 then 192 else if n = 3 then 224 else 240
def tail (f : Nat → Int) (j : Nat) : Prop := 128 ≤ f j ∧ f j ≤ 191
theorem jr_bd (p : Int) (f : Nat → Int) (h0 : -256 ≤ p) (h1 : p ≤ 255) (hf : ∀ i, 0 ≤ f i ∧ f i ≤ 255) : ∀ k, k ≤ 3 → -134217728 ≤ jr p f k ∧ jr p f k ≤ 134217728
  | 0, _ => by simp only [jr]; omega
  | 1, _ => by have := hf (0 + 1); simp only [jr]; omega
  | 2, _ => by have := hf (0 + 1); have := hf (1 + 1); simp only [jr]; omega
  | 3, _ => by have := hf (0 + 1); have := hf (1 + 1); have := hf (2 + 1); simp only [jr]; omega
  | k + 4, h => absurd h (by omega)
/-- What 'bits' answers. -/
def BR (f : Nat → Int) (n : Nat) (r : Int) : Prop := (∃ j, 1 ≤ j ∧ j < n ∧ ¬ tail f j) ∧ r = -1 ∨ (∀ j, 1 ≤ j → j < n → tail f j) ∧ r = jr (f 0 - base n) f (n - 1)

/-- A code point's bytes. -/
def encN (p : Int) : Nat := if p < 128 then 1 else if p < 2048 then 2 else if p < 65536 then 3 else 4
def encL (p : Int) : List Int := if p < 128 then [p] else if p < 2048 then [192 + p / 64, 128 + p % 64] else if p < 65536 then [224 + p / 4096, 128 + p / 64 % 64, 128 + p % 64] else [240 + p / 262144, 128 + p / 4096 % 64, 128 + p / 64 % 64, 128 + p % 64]
def encF (p : Int) (i : Nat) : Int := (encL p).getD i 0
theorem enc_1 {p : Int} (h : p < 128) : encN p = 1 ∧ encL p = [p] := by unfold encN encL; rw [if_pos h, if_pos h]; exact ⟨rfl, rfl⟩
theorem enc_2 {p : Int} (h : 128 ≤ p) (h' : p < 2048) : encN p = 2 ∧ encL p = [192 + p / 64, 128 + p % 64] := by
  unfold encN encL; rw [if_neg (by omega), if_pos h', if_neg (by omega), if_pos h']; exact ⟨rfl, rfl⟩
theorem enc_3 {p : Int} (h : 2048 ≤ p) (h' : p < 65536) : encN p = 3 ∧ encL p = [224 + p / 4096, 128 + p / 64 % 64, 128 + p % 64] := by
  unfold encN encL; rw [if_neg (by omega), if_neg (by omega), if_pos h', if_neg (by omega), if_neg (by omega), if_pos h']; exact ⟨rfl, rfl⟩
theorem enc_4 {p : Int} (h : 65536 ≤ p) : encN p = 4 ∧ encL p = [240 + p / 262144, 128 + p / 4096 % 64, 128 + p / 64 % 64, 128 + p % 64] := by
  unfold encN encL; rw [if_neg (by omega), if_neg (by omega), if_neg (by omega), if_neg (by omega), if_neg (by omega), if_neg (by omega)]; exact ⟨rfl, rfl⟩
theorem isPt_iff (p : Int) : isPt p = true ↔ 0 ≤ p ∧ p ≤ 1114111 ∧ (p < 55296 ∨ 57343 < p) := by simp [isPt, and_assoc]
theorem encF_bd (p : Int) (h0 : 0 ≤ p) (h1 : p ≤ 1114111) (i : Nat) : 0 ≤ encF p i ∧ encF p i ≤ 255 := by
  have key : ∀ l : List Int, (∀ x ∈ l, 0 ≤ x ∧ x ≤ 255) → 0 ≤ l.getD i 0 ∧ l.getD i 0 ≤ 255 := fun l hl => by
    rw [List.getD_eq_getElem?_getD]
    by_cases hi : i < l.length
    · rw [List.getElem?_eq_getElem hi]; exact hl _ (List.getElem_mem hi)
    · rw [List.getElem?_eq_none (by omega)]; simp
  refine key _ ?_
  by_cases a : p < 128
  · rw [(enc_1 a).2]; simp; omega
  · by_cases b : p < 2048
    · rw [(enc_2 (by omega) b).2]; simp; omega
    · by_cases c : p < 65536
      · rw [(enc_3 (by omega) c).2]; simp; omega
      · rw [(enc_4 (by omega)).2]; simp; omega

end Go.Proofs.YtecbmonbeogdjaaDoor.Utf

/-
  Bitwise and, or on Go's int where nothing is negative: their arithmetic faces.
-/
namespace Go.Proofs.YtecbmonbeogdjaaDoor.Utf

theorem wrap_small (n : Nat) (h : n < 9223372036854775808) : IntKind.i64.wrap (n : Int) = (n : Int) := by rw [IntKind.wrap_i64]; omega
theorem i64_and_nat (a b : Nat) (ha : a < 9223372036854775808) (hb : b < 9223372036854775808) : bits .and .i64 (a : Int) (b : Int) = ((a &&& b : Nat) : Int) := by
  show IntKind.i64.wrap ((BitVec.ofInt 64 (a : Int) &&& BitVec.ofInt 64 (b : Int)).toNat : Int) = _
  rw [BitVec.toNat_and, ofInt_u64 a (by omega), ofInt_u64 b (by omega)]
  exact wrap_small _ (Nat.lt_of_le_of_lt Nat.and_le_left ha)
theorem i64_or_nat (a b : Nat) (ha : a < 9223372036854775808) (hb : b < 9223372036854775808) : bits .or .i64 (a : Int) (b : Int) = ((a ||| b : Nat) : Int) := by
  show IntKind.i64.wrap ((BitVec.ofInt 64 (a : Int) ||| BitVec.ofInt 64 (b : Int)).toNat : Int) = _
  rw [BitVec.toNat_or, ofInt_u64 a (by omega), ofInt_u64 b (by omega)]
  exact wrap_small _ (Nat.or_lt_two_pow (n := 63) ha hb)

theorem i64_mask (i : Nat) (n : Int) (h0 : 0 ≤ n) (h1 : n < 9223372036854775808) (hi : 2 ^ i - 1 < 9223372036854775808) : bits .and .i64 n ((2 ^ i - 1 : Nat) : Int) = n % ((2 ^ i : Nat) : Int) := by
  obtain ⟨m, rfl⟩ := Int.eq_ofNat_of_zero_le h0
  rw [i64_and_nat m _ (by omega) hi, Nat.and_two_pow_sub_one_eq_mod]
  rfl
theorem i64_join (i : Nat) (a b : Int) (h0 : 0 ≤ a) (h1 : a < 9223372036854775808) (hb0 : 0 ≤ b) (hb : b < ((2 ^ i : Nat) : Int)) (hb' : b < 9223372036854775808) (hm : a % ((2 ^ i : Nat) : Int) = 0) : bits .or .i64 a b = a + b := by
  obtain ⟨m, rfl⟩ := Int.eq_ofNat_of_zero_le h0
  obtain ⟨k, rfl⟩ := Int.eq_ofNat_of_zero_le hb0
  rw [i64_or_nat m k (by omega) (by omega), nat_join i m k (by exact_mod_cast hm) (by exact_mod_cast hb)]
  rfl
theorem i64_and63 (n : Int) (h0 : 0 ≤ n) (h1 : n < 9223372036854775808) : bits .and .i64 n 63 = n % 64 := i64_mask 6 n h0 h1 (by decide)
theorem i64_and31 (n : Int) (h0 : 0 ≤ n) (h1 : n < 9223372036854775808) : bits .and .i64 n 31 = n % 32 := i64_mask 5 n h0 h1 (by decide)
theorem i64_and15 (n : Int) (h0 : 0 ≤ n) (h1 : n < 9223372036854775808) : bits .and .i64 n 15 = n % 16 := i64_mask 4 n h0 h1 (by decide)
theorem i64_and7 (n : Int) (h0 : 0 ≤ n) (h1 : n < 9223372036854775808) : bits .and .i64 n 7 = n % 8 := i64_mask 3 n h0 h1 (by decide)
theorem i64_or64 (a b : Int) (h0 : 0 ≤ a) (h1 : a < 9223372036854775808) (hb0 : 0 ≤ b) (hb : b < 64) (hm : a % 64 = 0) : bits .or .i64 a b = a + b := i64_join 6 a b h0 h1 hb0 hb (by omega) hm
theorem i64_or32 (a b : Int) (h0 : 0 ≤ a) (h1 : a < 9223372036854775808) (hb0 : 0 ≤ b) (hb : b < 32) (hm : a % 32 = 0) : bits .or .i64 a b = a + b := i64_join 5 a b h0 h1 hb0 hb (by omega) hm
theorem i64_or16 (a b : Int) (h0 : 0 ≤ a) (h1 : a < 9223372036854775808) (hb0 : 0 ≤ b) (hb : b < 16) (hm : a % 16 = 0) : bits .or .i64 a b = a + b := i64_join 4 a b h0 h1 hb0 hb (by omega) hm
theorem u8_and63 (n : Int) (h0 : 0 ≤ n) (h1 : n < 256) : bits .and .u8 n 63 = n % 64 := by
  rw [u8_and n 63 h0 h1 (by omega) (by omega)]
  show ((n.toNat &&& 63 : Nat) : Int) = _
  rw [nat_mask6]; omega

end Go.Proofs.YtecbmonbeogdjaaDoor.Utf

/-
  Walks of package utf's small functions: sizeOf, secondOf, isPoint, follow, and of the reference's long.
-/
namespace Go.Proofs.YtecbmonbeogdjaaDoor
open Go.RowKit
set_option linter.unusedVariables false


theorem sizeOf_calls (c : Int) (w : World) :
    Calls Tryd.prog 67 #[.int .u8 c] w fun e w' => e = .returned (.int .i64 (Utf.sizeOf c)) ∧ w' = w := by
  go_enter Tryd.func67, Tryd.ntmps67
  go_wp2
  all_goals (go_ret; refine ⟨ret_int ?_, rfl⟩)
  · exact (Utf.sizeOf_1 (by omega)).symm
  · exact (Utf.sizeOf_0 (by omega) (by omega)).symm
  · exact (Utf.sizeOf_2 (by omega) (by omega)).symm
  · exact (Utf.sizeOf_3 (by omega) (by omega)).symm
  · exact (Utf.sizeOf_4 (by omega) (by omega)).symm
  · exact (Utf.sizeOf_5 (by omega)).symm

theorem ret_two {k k' : IntKind} {a b c d : Int} (h : a = b) (h' : c = d) : Ending.returned (.tuple #[.int k a, .int k' c]) = .returned (.tuple #[.int k b, .int k' d]) := by rw [h, h']

theorem secondOf_calls (c : Int) (w : World) :
    Calls Tryd.prog 70 #[.int .u8 c] w fun e w' => e = .returned (.tuple #[.int .u8 (Utf.lo2 c), .int .u8 (Utf.hi2 c)]) ∧ w' = w := by
  go_enter Tryd.func70, Tryd.ntmps70
  go_wp2
  all_goals (go_ret2; refine ⟨ret_two ?_ ?_, rfl⟩)
  all_goals (simp only [beq_iff_eq, beq_eq_false_iff_ne, ne_eq] at *; first | unfold Utf.lo2 | unfold Utf.hi2);
  all_goals ( repeat (first | rw [if_pos (by omega)] | rw [if_neg (by omega)]))

theorem isPoint_calls (n : Int) (w : World) :
    Calls Tryd.prog 45 #[.int .i64 n] w fun e w' => e = .returned (.bool (Utf.isPt n)) ∧ w' = w := by
  go_enter Tryd.func45, Tryd.ntmps45
  go_wp2
  all_goals (go_ret; refine ⟨ret_bool ?_, rfl⟩; simp [Utf.isPt]; try omega)

theorem follow_calls (n : Int) (h0 : 0 ≤ n) (h1 : n ≤ 1114111) (w : World) :
    Calls Tryd.prog 46 #[.int .i64 n] w fun e w' => e = .returned (.int .u8 (128 + n % 64)) ∧ w' = w := by
  go_enter Tryd.func46, Tryd.ntmps46
  go_wp2
  go_ret
  refine ⟨ret_int ?_, rfl⟩
  rw [Utf.i64_and63 n h0 (by omega), Utf.i64_or64 128 _ (by omega) (by omega) (by omega) (by omega) (by omega)]
  omega

end Go.Proofs.YtecbmonbeogdjaaDoor

/-
  Walks of package utf's firstPart and join.
-/
namespace Go.Proofs.YtecbmonbeogdjaaDoor
open Go.RowKit
set_option linter.unusedVariables false

/-- The n cells from place 'off' of block b on hold the bytes that f tells. -/
def Bs (w : World) (b off n : Nat) (f : Nat → Int) : Prop := (∀ i, i < n → w.cell? ⟨b, off + i, none⟩ = some (.int .u8 (f i))) ∧ ∀ i, 0 ≤ f i ∧ f i ≤ 255

set_option maxHeartbeats 400000 in
theorem firstPart_calls (b off n cap : Nat) (f : Nat → Int) (size : Int) (w : World) (h0 : 0 ≤ size) (h1 : size ≤ 4) (hne : 0 < n) (hl : n ≤ maxLen) (hb : Bs w b off n f) :
    Calls Tryd.prog 68 #[.slice (some ⟨b, off, none⟩) n cap, .int .i64 size] w fun e w' => (∃ k : Nat, e = .returned (.int .i64 k) ∧ Utf.FP f (min size.toNat n) k) ∧ w' = w := by
  obtain ⟨hc, hz⟩ := hb
  unfold maxLen at hl
  obtain ⟨m, rfl⟩ := Int.eq_ofNat_of_zero_le h0
  rw [Int.toNat_natCast]
  have hc0 := hc 0 hne
  simp only [Nat.add_zero] at hc0
  have hne' : (0 : Int) < n := by omega
  by_cases hA : m ≤ n
  · rw [Nat.min_eq_left hA]
    have hA' : (m : Int) ≤ n := by omega
    go_enter Tryd.func68, Tryd.ntmps68
    go_wp2
    go_loop [6] (fun i => ∃ k : Nat, 1 ≤ k ∧ (k ≤ m ∨ k = 1) ∧ i = .int .i64 k ∧ ∀ j, 1 ≤ j → j < k → Utf.okAt f j) (fun i => m - (intOf i).toNat)
    case atStart => exact ⟨1, Nat.le_refl _, Or.inr rfl, rfl, fun j a b => absurd b (by omega)⟩
    case round =>
      obtain ⟨k, hk, hkm, rfl, hrel⟩ := hrel
      have HR := hid hrel
      clear hrel
      by_cases hlt : k < m
      · have hck := hc k (by omega)
        have hlt' : (k : Int) < m := by omega
        have hkl : (k : Int) < n := by omega
        have hzk := hz k
        clear hkm
        by_cases hk1 : k = 1
        · subst hk1
          go_wp2_with (go_at_call 70; refine (secondOf_calls _ _).mono ?_; rintro e w' ⟨rfl, rfl⟩)
          · go_ret
            exact ⟨⟨1, rfl, Utf.fp_stop1 hlt (by omega)⟩, rfl⟩
          · exact ⟨⟨2, by omega, by omega, rfl, Utf.ok_snoc HR.out (Utf.okAt_one.2 (by omega))⟩, by simp [intOf]; omega⟩
          · go_ret
            exact ⟨⟨1, rfl, Utf.fp_stop1 hlt (by omega)⟩, rfl⟩
        · have hk1' : ((k : Int) == 1) = false := by simp; omega
          go_wp2
          · go_ret
            exact ⟨⟨k, rfl, Utf.fp_stop hk hlt hk1 HR.out (by omega)⟩, rfl⟩
          · exact ⟨⟨k + 1, by omega, by omega, by go_num, Utf.ok_snoc HR.out ((Utf.okAt_more hk1).2 (by omega))⟩, by simp [intOf]; omega⟩
          · go_ret
            exact ⟨⟨k, rfl, Utf.fp_stop hk hlt hk1 HR.out (by omega)⟩, rfl⟩
      · have hlt' : ¬ (k : Int) < m := by omega
        go_wp2
        go_ret
        exact ⟨⟨m, rfl, Utf.fp_end (by omega) HR.out⟩, rfl⟩
  · rw [Nat.min_eq_right (by omega)]
    have hA' : (n : Int) < m := by omega
    go_enter Tryd.func68, Tryd.ntmps68
    go_wp2
    go_loop [6] (fun i => ∃ k : Nat, 1 ≤ k ∧ (k ≤ n ∨ k = 1) ∧ i = .int .i64 k ∧ ∀ j, 1 ≤ j → j < k → Utf.okAt f j) (fun i => n - (intOf i).toNat)
    case atStart => exact ⟨1, Nat.le_refl _, Or.inr rfl, rfl, fun j a b => absurd b (by omega)⟩
    case round =>
      obtain ⟨k, hk, hkm, rfl, hrel⟩ := hrel
      have HR := hid hrel
      clear hrel
      by_cases hlt : k < n
      · have hck := hc k (by omega)
        have hlt' : (k : Int) < n := by omega
        have hkl : (k : Int) < n := by omega
        have hzk := hz k
        clear hkm
        by_cases hk1 : k = 1
        · subst hk1
          go_wp2_with (go_at_call 70; refine (secondOf_calls _ _).mono ?_; rintro e w' ⟨rfl, rfl⟩)
          · go_ret
            exact ⟨⟨1, rfl, Utf.fp_stop1 hlt (by omega)⟩, rfl⟩
          · exact ⟨⟨2, by omega, by omega, rfl, Utf.ok_snoc HR.out (Utf.okAt_one.2 (by omega))⟩, by simp [intOf]; omega⟩
          · go_ret
            exact ⟨⟨1, rfl, Utf.fp_stop1 hlt (by omega)⟩, rfl⟩
        · have hk1' : ((k : Int) == 1) = false := by simp; omega
          go_wp2
          · go_ret
            exact ⟨⟨k, rfl, Utf.fp_stop hk hlt hk1 HR.out (by omega)⟩, rfl⟩
          · exact ⟨⟨k + 1, by omega, by omega, by go_num, Utf.ok_snoc HR.out ((Utf.okAt_more hk1).2 (by omega))⟩, by simp [intOf]; omega⟩
          · go_ret
            exact ⟨⟨k, rfl, Utf.fp_stop hk hlt hk1 HR.out (by omega)⟩, rfl⟩
      · have hlt' : ¬ (k : Int) < n := by omega
        go_wp2
        go_ret
        exact ⟨⟨n, rfl, Utf.fp_end (by omega) HR.out⟩, rfl⟩
end Go.Proofs.YtecbmonbeogdjaaDoor

/-
  The walk of package utf's join.
-/
namespace Go.Proofs.YtecbmonbeogdjaaDoor
open Go.RowKit
set_option linter.unusedVariables false

theorem Utf.jn_step (p : Int) (f : Nat → Int) (k : Nat) (h0 : 0 ≤ Utf.jn p f k) (h1 : Utf.jn p f k ≤ 67108863) :
    bits .or .i64 (Utf.jn p f k * 64) (f (k + 1) % 64) = Utf.jn p f (k + 1) := by
  rw [Utf.i64_or64 _ _ (by omega) (by omega) (by omega) (by omega) (by omega)]
  show _ = 64 * Utf.jn p f k + f (k + 1) % 64
  omega

set_option maxHeartbeats 400000 in
theorem join_calls (b off n cap : Nat) (f : Nat → Int) (w : World) (h1 : 1 ≤ n) (h4 : n ≤ 4) (hcap : n ≤ cap) (hm : cap ≤ maxLen) (hb : Bs w b off n f) :
    Calls Tryd.prog 69 #[.slice (some ⟨b, off, none⟩) n cap] w fun e w' => e = .returned (.int .i64 (Utf.jn (Utf.p0 n (f 0)) f (n - 1))) ∧ w' = w := by
  obtain ⟨hc, hz⟩ := hb
  unfold maxLen at hm
  have hz0 := hz 0
  have hc0 := hc 0 (by omega)
  simp only [Nat.add_zero] at hc0
  have hpb := Utf.p0_bd n (f 0) (by omega) (by omega)
  have hjb := Utf.jn_bd _ f hpb.1 hpb.2
  obtain rfl | rfl | rfl | rfl : n = 1 ∨ n = 2 ∨ n = 3 ∨ n = 4 := by omega
  · by_cases hcap1 : cap = 1
    all_goals
      go_enter Tryd.func69, Tryd.ntmps69
      go_wp2
      refine wp_loop_rounds 1 ?_
      rw [rounds_succ]
      go_wp2
      go_ret
      exact ⟨rfl, rfl⟩
  · go_enter Tryd.func69, Tryd.ntmps69
    go_wp2
    go_loop [3, 21] (fun p i => ∃ k : Nat, k ≤ 1 ∧ i = .int .i64 k ∧ p = .int .i64 (Utf.jn (Utf.p0 2 (f 0)) f k)) (fun _ i => 1 - (intOf i).toNat)
    case atStart => exact ⟨0, by omega, rfl, congrArg (Value.int .i64) (Utf.i64_and31 (f 0) (by omega) (by omega))⟩
    case round =>
      obtain ⟨k, hk, rfl, rfl⟩ := hrel
      have hj := hjb k (by omega)
      have hzk := hz (k + 1)
      by_cases hlt : k < 1
      · have hlt' : (k : Int) < 1 := by omega
        have hck := hc (k + 1) (by omega)
        have hck' : w.cell? ⟨b, off + 1 + k, none⟩ = some (.int .u8 (f (k + 1))) := by rw [← hck]; congr 2; omega
        clear hck
        go_wp2
        exact ⟨⟨k + 1, by omega, by go_num, congrArg (Value.int .i64) (Utf.jn_step _ _ k hj.1 hj.2)⟩, by simp [intOf]; omega⟩
      · have hlt' : ¬ (k : Int) < 1 := by omega
        obtain rfl : k = 1 := by omega
        go_wp2
        go_ret
        exact ⟨rfl, rfl⟩
  · go_enter Tryd.func69, Tryd.ntmps69
    go_wp2
    go_loop [3, 21] (fun p i => ∃ k : Nat, k ≤ 2 ∧ i = .int .i64 k ∧ p = .int .i64 (Utf.jn (Utf.p0 3 (f 0)) f k)) (fun _ i => 2 - (intOf i).toNat)
    case atStart => exact ⟨0, by omega, rfl, congrArg (Value.int .i64) (Utf.i64_and15 (f 0) (by omega) (by omega))⟩
    case round =>
      obtain ⟨k, hk, rfl, rfl⟩ := hrel
      have hj := hjb k (by omega)
      have hzk := hz (k + 1)
      by_cases hlt : k < 2
      · have hlt' : (k : Int) < 2 := by omega
        have hck := hc (k + 1) (by omega)
        have hck' : w.cell? ⟨b, off + 1 + k, none⟩ = some (.int .u8 (f (k + 1))) := by rw [← hck]; congr 2; omega
        clear hck
        go_wp2
        exact ⟨⟨k + 1, by omega, by go_num, congrArg (Value.int .i64) (Utf.jn_step _ _ k hj.1 hj.2)⟩, by simp [intOf]; omega⟩
      · have hlt' : ¬ (k : Int) < 2 := by omega
        obtain rfl : k = 2 := by omega
        go_wp2
        go_ret
        exact ⟨rfl, rfl⟩
  · go_enter Tryd.func69, Tryd.ntmps69
    go_wp2
    go_loop [3, 21] (fun p i => ∃ k : Nat, k ≤ 3 ∧ i = .int .i64 k ∧ p = .int .i64 (Utf.jn (Utf.p0 4 (f 0)) f k)) (fun _ i => 3 - (intOf i).toNat)
    case atStart => exact ⟨0, by omega, rfl, congrArg (Value.int .i64) (Utf.i64_and7 (f 0) (by omega) (by omega))⟩
    case round =>
      obtain ⟨k, hk, rfl, rfl⟩ := hrel
      have hj := hjb k (by omega)
      have hzk := hz (k + 1)
      by_cases hlt : k < 3
      · have hlt' : (k : Int) < 3 := by omega
        have hck := hc (k + 1) (by omega)
        have hck' : w.cell? ⟨b, off + 1 + k, none⟩ = some (.int .u8 (f (k + 1))) := by rw [← hck]; congr 2; omega
        clear hck
        go_wp2
        exact ⟨⟨k + 1, by omega, by go_num, congrArg (Value.int .i64) (Utf.jn_step _ _ k hj.1 hj.2)⟩, by simp [intOf]; omega⟩
      · have hlt' : ¬ (k : Int) < 3 := by omega
        obtain rfl : k = 3 := by omega
        go_wp2
        go_ret
        exact ⟨rfl, rfl⟩
end Go.Proofs.YtecbmonbeogdjaaDoor

/-
  The walk of package utf's Decode.
-/
namespace Go.Proofs.YtecbmonbeogdjaaDoor
open Go.RowKit
set_option linter.unusedVariables false

/-- Three results as one value. -/
def D3 (d : Int × Int × Bool) : Value := .tuple #[.int .i64 d.1, .int .i64 d.2.1, .bool d.2.2]

set_option maxHeartbeats 400000 in
theorem decode_none (a : Option Addr) (cap : Nat) (fin : Bool) (w : World) :
    Calls Tryd.prog 63 #[.slice a 0 cap, .bool fin] w fun e w' => e = .returned (.tuple #[.int .i64 (-1), .int .i64 0, .bool true]) ∧ w' = w := by
  go_enter Tryd.func63, Tryd.ntmps63
  go_wp2
  go_ret3
  exact ⟨rfl, rfl⟩

set_option maxHeartbeats 400000 in
theorem decode_some (b off n cap : Nat) (f : Nat → Int) (fin : Bool) (w : World) (hn : 0 < n) (hcap : n ≤ cap) (hm : cap ≤ maxLen) (hb : Bs w b off n f) :
    Calls Tryd.prog 63 #[.slice (some ⟨b, off, none⟩) n cap, .bool fin] w fun e w' => e = .returned (D3 (Utf.dec f n fin)) ∧ w' = w := by
  have hc0 := hb.1 0 hn
  simp only [Nat.add_zero] at hc0
  have Hb := hid hb
  clear hb
  have hsb := Utf.sizeOf_bd (f 0)
  obtain ⟨s, hs⟩ := Int.eq_ofNat_of_zero_le hsb.1
  have Hs := hid hs
  have hs4 : s ≤ 4 := by omega
  clear hsb hs
  unfold maxLen at hm
  have hn' : (0 : Int) < n := by omega
  have hn0 : ((n : Int) == 0) = false := by simp; omega
  go_enter Tryd.func63, Tryd.ntmps63
  go_wp2_with fail
  refine (sizeOf_calls _ _).mono ?_
  rintro e w' ⟨rfl, rfl⟩
  rw [Hs.out]
  go_wp2_with fail
  refine (firstPart_calls b off n cap f s _ (by omega) (by omega) hn (by unfold maxLen; omega) Hb.out).mono ?_
  rintro e w' ⟨⟨k, rfl, hfp⟩, rfl⟩
  rw [Int.toNat_natCast] at hfp
  have Hk := hid (Utf.fp_eq f _ k (by omega) hfp).symm
  clear hfp
  by_cases hA : 0 < s ∧ k = s
  · obtain ⟨hA1, rfl⟩ := hA
    have hkn : k ≤ n := by have := Utf.fpN_le f (min k n); rw [Hk.out] at this; omega
    have HD := hid (Utf.dec_yes (fin := fin) hn Hs.out hA1 Hk.out)
    have hA1' : (0 : Int) < k := by omega
    have hkn' : (k : Int) ≤ n := by omega
    go_wp2_with fail
    refine (join_calls b off k cap f _ (by omega) (by omega) (by omega) (by unfold maxLen; omega) ⟨fun i hi => Hb.out.1 i (by omega), Hb.out.2⟩).mono ?_
    rintro e w' ⟨rfl, rfl⟩
    go_wp2_with fail
    go_ret3
    exact ⟨by rw [HD.out]; rfl, rfl⟩
  · have hA' : ¬ (0 < s ∧ Utf.fpN f (min s n) = s) := by rw [Hk.out]; exact hA
    have HD := hid (fun hk => Utf.dec_more hn Hs.out hA' hk)
    have HD' := hid (fun hk => Utf.dec_no (fin := fin) hn Hs.out hA' hk)
    have HA := hid hA
    clear hA hA'
    by_cases hs0 : 0 < s
    · have hs0' : (0 : Int) < s := by omega
      have hks : ((k : Int) == s) = false := by have := HA.out; simp; omega
      by_cases hkn : k = n
      · subst hkn
        cases fin
        · go_wp2_with fail
          go_ret3
          exact ⟨by rw [HD.out Hk.out]; rfl, rfl⟩
        · go_wp2_with fail
          go_ret3
          exact ⟨by rw [HD'.out (by simp)]; rfl, rfl⟩
      · have hkn' : ((k : Int) == n) = false := by simp; omega
        go_wp2_with fail
        go_ret3
        exact ⟨by rw [HD'.out (by rw [Hk.out]; omega)]; rfl, rfl⟩
    · obtain rfl : s = 0 := by omega
      have hk0 : k = 0 := by have := Hk.out; rw [Nat.zero_min] at this; exact this.symm
      subst hk0
      have hkn' : ((0 : Int) == n) = false := by simp; omega
      go_wp2_with fail
      go_ret3
      exact ⟨by rw [HD'.out (by rw [Hk.out]; omega)]; rfl, rfl⟩
end Go.Proofs.YtecbmonbeogdjaaDoor

/-
  package utf's Decode, for whatever slice of bytes.
-/
namespace Go.Proofs.YtecbmonbeogdjaaDoor
open Go.RowKit
set_option linter.unusedVariables false

theorem decode_calls (a : Option Addr) (n cap : Nat) (f : Nat → Int) (fin : Bool) (w : World) (h : Sl w a n cap f) :
    Calls Tryd.prog 63 #[.slice a n cap, .bool fin] w fun e w' => e = .returned (D3 (Utf.dec f n fin)) ∧ w' = w := by
  by_cases hn : n = 0
  · subst hn
    refine (decode_none a cap fin w).mono ?_
    rintro e w' ⟨rfl, rfl⟩
    exact ⟨by simp [Utf.dec, D3], rfl⟩
  · obtain ⟨b, off, rfl, _, hc⟩ := h.at' (by omega)
    exact decode_some b off n cap f fin w (by omega) h.le h.mx ⟨hc, h.bd⟩

theorem Tryd.info8 : (Tryd.prog.info? 5).map (fun i => (i.zero, i.size, i.bytes)) = some (some (.int .u8 0), 1, 1) := by kernel_rfl

/-- A slice of bytes that came in, as the row's frame tells it. -/
theorem Sl.ofRow {w : World} {a : Option Addr} {len cap : Nat} {zs : List Int}
    (h : (a = none ∧ len = 0 ∧ cap = 0 ∧ zs = []) ∨ ∃ x, a = some x ∧ len ≤ cap ∧ cap ≤ maxLen ∧ zs.length = cap ∧ (∀ i, i < zs.length → w.cell? (x.add i) = some (.int .u8 (zs.getD i 0))) ∧ ∀ n ∈ zs, (Lit.int .u8 n).wf = true) :
    Sl w a len cap (fun i => zs.getD i 0) := by
  rcases h with ⟨rfl, rfl, rfl, rfl⟩ | ⟨x, rfl, hl, hm, hz, hcell, hwz⟩
  · exact ⟨Nat.le_refl _, Nat.zero_le _, fun i => by simp, fun _ => ⟨rfl, rfl⟩, fun h => absurd h (by omega)⟩
  · refine ⟨hl, hm, fun i => ?_, fun h => absurd h (by simp), fun h0 => ?_⟩
    · by_cases hi : i < zs.length
      · have hw := hwz (zs.getD i 0) (by rw [List.getD_eq_getElem?_getD, List.getElem?_eq_getElem hi]; exact List.getElem_mem hi)
        simp [Lit.wf, IntKind.min, IntKind.max, IntKind.signed, IntKind.bits] at hw
        simpa using hw
      · rw [List.getD_eq_getElem?_getD, List.getElem?_eq_none (by omega)]; simp
    · obtain ⟨b, off, spot⟩ := x
      have hs : spot = none := by
        have := World.cell?_spot (hcell 0 (by omega))
        simpa [Addr.add] using this
      subst hs
      have hc : ∀ i, i < len → w.cell? ⟨b, off + i, none⟩ = some (.int .u8 (zs.getD i 0)) := fun i hi => by
        have := hcell i (by omega)
        rwa [Addr.add_lit] at this
      exact ⟨b, off, rfl, World.block_lt_of_cell? _ _ (hc 0 h0), hc⟩
end Go.Proofs.YtecbmonbeogdjaaDoor

/-
  That the reference's way to decode comes to what the program's does: plain mathematics on bytes.
-/
namespace Go.Proofs.YtecbmonbeogdjaaDoor.Utf

theorem lo2_eq (c : Int) : (c = 224 → lo2 c = 160) ∧ (c = 240 → lo2 c = 144) ∧ (c ≠ 224 → c ≠ 240 → lo2 c = 128) := by
  unfold lo2
  refine ⟨fun h => by rw [if_pos h], fun h => by rw [if_neg (by omega), if_pos h], fun h h' => by rw [if_neg h, if_neg h']⟩
theorem hi2_eq (c : Int) : (c = 237 → hi2 c = 159) ∧ (c = 244 → hi2 c = 143) ∧ (c ≠ 237 → c ≠ 244 → hi2 c = 191) := by
  unfold hi2
  refine ⟨fun h => by rw [if_pos h], fun h => by rw [if_neg (by omega), if_pos h], fun h h' => by rw [if_neg h, if_neg h']⟩

theorem fpN_full {f : Nat → Int} {k : Nat} (hk : k ≤ 4) : fpN f k = k ↔ ∀ j, 1 ≤ j → j < k → okAt f j := by
  have h := fpN_FP f k hk
  constructor
  · intro e
    rw [e] at h
    exact h.2.1
  · intro e
    exact (fp_eq f k k hk ⟨Nat.le_refl _, e, fun a => absurd a (by omega)⟩).symm

/-- n bytes are there, as many as the first one asks for: they are a code point's, or the first one is a byte of none. -/
theorem dec_full {f : Nat → Int} {m n : Nat} {fin : Bool} (h1 : 1 ≤ n) (h4 : n ≤ 4) (hm : n ≤ m) (hs : sizeOf (f 0) = n) :
    ((∀ j, 1 ≤ j → j < n → okAt f j) → dec f m fin = (jn (p0 n (f 0)) f (n - 1), (n : Int), false)) ∧ (¬ (∀ j, 1 ≤ j → j < n → okAt f j) → dec f m fin = (-1, 1, false)) := by
  have e : min n m = n := by omega
  have hle := fpN_le f n
  constructor
  · intro h
    exact dec_yes (by omega) hs (by omega) (by rw [e]; exact (fpN_full h4).2 h)
  · intro h
    rw [← fpN_full h4] at h
    exact dec_no (by omega) hs (by rw [e]; exact fun x => h x.2) (by rw [e]; intro x; have := x.1; omega)
theorem dec_zero {f : Nat → Int} {m : Nat} {fin : Bool} (h1 : 1 ≤ m) (hs : sizeOf (f 0) = 0) : dec f m fin = (-1, 1, false) := by
  have e : fpN f (min 0 m) = 0 := by rw [Nat.zero_min]; rfl
  exact dec_no (s := 0) (by omega) hs (by omega) (by rw [e]; intro x; have := x.1; omega)
/-- Fewer bytes are there than the first one asks for. -/
theorem dec_part {f : Nat → Int} {m n : Nat} (h1 : 1 ≤ m) (h4 : n ≤ 4) (hm : m < n) (hs : sizeOf (f 0) = n) :
    ((∀ j, 1 ≤ j → j < m → okAt f j) → dec f m false = (-1, 0, true)) ∧ (¬ (∀ j, 1 ≤ j → j < m → okAt f j) → dec f m false = (-1, 1, false)) ∧ dec f m true = (-1, 1, false) := by
  have e : min n m = m := by omega
  have hle := fpN_le f m
  have hA : ¬ (0 < n ∧ fpN f (min n m) = n) := by rw [e]; omega
  refine ⟨fun h => ?_, fun h => ?_, ?_⟩
  · exact dec_more (by omega) hs hA (by rw [e]; exact (fpN_full (by omega)).2 h)
  · rw [← fpN_full (by omega)] at h
    exact dec_no (by omega) hs hA (by rw [e]; exact fun x => h x.1)
  · exact dec_no (by omega) hs hA (by simp)

theorem isPt_of {q : Int} (h0 : 0 ≤ q) (h1 : q ≤ 1114111) (h2 : q < 55296 ∨ 57343 < q) : isPt q = true := (isPt_iff q).2 ⟨h0, h1, h2⟩
def Fit (f : Nat → Int) (n : Nat) (q : Int) : Prop := isPt q = true ∧ encN q = n ∧ ∀ i, i < n → encF q i = f i
def WR (f : Nat → Int) (n : Nat) (r : Int) : Prop := ∃ q, BR f n q ∧ (Fit f n q ∧ r = q ∨ ¬ Fit f n q ∧ r = -1)
theorem encN_lt {q : Int} : (encN q = 1 → q < 128) ∧ (encN q = 2 → 128 ≤ q ∧ q < 2048) ∧ (encN q = 3 → 2048 ≤ q ∧ q < 65536) ∧ (encN q = 4 → 65536 ≤ q) := by
  by_cases a : q < 128
  · rw [(enc_1 a).1]; omega
  · by_cases b : q < 2048
    · rw [(enc_2 (by omega) b).1]; omega
    · by_cases c : q < 65536
      · rw [(enc_3 (by omega) c).1]; omega
      · rw [(enc_4 (by omega)).1]; omega

theorem fit1 {f : Nat → Int} (h0 : 0 ≤ f 0) (h : f 0 < 128) : Fit f 1 (f 0) := by
  refine ⟨isPt_of h0 (by omega) (by omega), (enc_1 h).1, fun i hi => ?_⟩
  obtain rfl : i = 0 := by omega
  unfold encF; rw [(enc_1 h).2]; rfl
theorem fit2 {f : Nat → Int} {q : Int} (hq : q = 64 * (f 0 - 192) + f 1 - 128) (h0 : 192 ≤ f 0) (h0' : f 0 < 224) (h1 : 128 ≤ f 1) (h1' : f 1 ≤ 191) : Fit f 2 q ↔ 194 ≤ f 0 := by
  constructor
  · intro h
    have := (encN_lt (q := q)).2.1 h.2.1
    omega
  · intro h
    have e := enc_2 (p := q) (by omega) (by omega)
    refine ⟨isPt_of (by omega) (by omega) (by omega), e.1, fun i hi => ?_⟩
    unfold encF; rw [e.2]
    obtain rfl | rfl : i = 0 ∨ i = 1 := by omega
    · show 192 + q / 64 = _; omega
    · show 128 + q % 64 = _; omega
theorem fit3 {f : Nat → Int} {q : Int} (hq : q = 64 * (64 * (f 0 - 224) + f 1 - 128) + f 2 - 128) (h0 : 224 ≤ f 0) (h0' : f 0 < 240) (h1 : 128 ≤ f 1) (h1' : f 1 ≤ 191) (h2 : 128 ≤ f 2) (h2' : f 2 ≤ 191) :
    Fit f 3 q ↔ lo2 (f 0) ≤ f 1 ∧ f 1 ≤ hi2 (f 0) := by
  have l := lo2_eq (f 0)
  have g := hi2_eq (f 0)
  constructor
  · intro h
    have a := (encN_lt (q := q)).2.2.1 h.2.1
    have b := (isPt_iff q).1 h.1
    omega
  · intro h
    have e := enc_3 (p := q) (by omega) (by omega)
    refine ⟨isPt_of (by omega) (by omega) (by omega), e.1, fun i hi => ?_⟩
    unfold encF; rw [e.2]
    obtain rfl | rfl | rfl : i = 0 ∨ i = 1 ∨ i = 2 := by omega
    · show 224 + q / 4096 = _; omega
    · show 128 + q / 64 % 64 = _; omega
    · show 128 + q % 64 = _; omega
theorem fit4 {f : Nat → Int} {q : Int} (hq : q = 64 * (64 * (64 * (f 0 - 240) + f 1 - 128) + f 2 - 128) + f 3 - 128) (h0 : 240 ≤ f 0) (h0' : f 0 < 248) (h1 : 128 ≤ f 1) (h1' : f 1 ≤ 191) (h2 : 128 ≤ f 2) (h2' : f 2 ≤ 191) (h3 : 128 ≤ f 3) (h3' : f 3 ≤ 191) :
    Fit f 4 q ↔ f 0 < 245 ∧ lo2 (f 0) ≤ f 1 ∧ f 1 ≤ hi2 (f 0) := by
  have l := lo2_eq (f 0)
  have g := hi2_eq (f 0)
  constructor
  · intro h
    have a := (encN_lt (q := q)).2.2.2 h.2.1
    have b := (isPt_iff q).1 h.1
    omega
  · intro h
    have e := enc_4 (p := q) (by omega)
    refine ⟨isPt_of (by omega) (by omega) (by omega), e.1, fun i hi => ?_⟩
    unfold encF; rw [e.2]
    obtain rfl | rfl | rfl | rfl : i = 0 ∨ i = 1 ∨ i = 2 ∨ i = 3 := by omega
    · show 240 + q / 262144 = _; omega
    · show 128 + q / 4096 % 64 = _; omega
    · show 128 + q / 64 % 64 = _; omega
    · show 128 + q % 64 = _; omega

/-- All of a code point's bytes behind the first one may be. -/
theorem ok_all {f : Nat → Int} {n : Nat} (h2 : 2 ≤ n) : (∀ j, 1 ≤ j → j < n → okAt f j) ↔ (lo2 (f 0) ≤ f 1 ∧ f 1 ≤ hi2 (f 0)) ∧ ∀ j, 2 ≤ j → j < n → tail f j := by
  constructor
  · intro h
    exact ⟨okAt_one.1 (h 1 (by omega) (by omega)), fun j a b => (okAt_more (by omega)).1 (h j (by omega) b)⟩
  · rintro ⟨h, g⟩ j a b
    by_cases e : j = 1
    · subst e; exact okAt_one.2 h
    · exact (okAt_more e).2 (g j (by omega) b)
theorem tail_of_ok {f : Nat → Int} (h : lo2 (f 0) ≤ f 1 ∧ f 1 ≤ hi2 (f 0)) : tail f 1 := by
  have l := lo2_eq (f 0)
  have g := hi2_eq (f 0)
  unfold tail
  omega

end Go.Proofs.YtecbmonbeogdjaaDoor.Utf

/-
  The reference's Decode, case by case, comes to 'dec'.
-/
namespace Go.Proofs.YtecbmonbeogdjaaDoor.Utf

theorem long_cases {c : Int} {n : Nat} (h : long c = n) (h0 : 0 < n) : (n = 1 ∧ c < 128) ∨ (n = 2 ∧ 192 ≤ c ∧ c < 224) ∨ (n = 3 ∧ 224 ≤ c ∧ c < 240) ∨ (n = 4 ∧ 240 ≤ c ∧ c < 248) := by
  unfold long at h
  by_cases a : c < 128
  · rw [if_pos a] at h; omega
  · rw [if_neg a] at h
    by_cases b : 192 ≤ c ∧ c < 224
    · rw [if_pos b] at h; omega
    · rw [if_neg b] at h
      by_cases d : 224 ≤ c ∧ c < 240
      · rw [if_pos d] at h; omega
      · rw [if_neg d] at h
        by_cases e : 240 ≤ c ∧ c < 248
        · rw [if_pos e] at h; omega
        · rw [if_neg e] at h; omega
theorem long_zero {c : Int} (h : long c = 0) : sizeOf c = 0 := by
  unfold long at h
  by_cases a : c < 128
  · rw [if_pos a] at h; omega
  · rw [if_neg a] at h
    by_cases b : 192 ≤ c ∧ c < 224
    · rw [if_pos b] at h; omega
    · rw [if_neg b] at h
      by_cases d : 224 ≤ c ∧ c < 240
      · rw [if_pos d] at h; omega
      · rw [if_neg d] at h
        by_cases e : 240 ≤ c ∧ c < 248
        · rw [if_pos e] at h; omega
        · by_cases g : c < 194
          · exact sizeOf_0 (by omega) g
          · exact sizeOf_5 (by omega)
theorem long_bd (c : Int) : 0 ≤ long c ∧ long c ≤ 4 := by
  unfold long
  split
  · omega
  · split
    · omega
    · split
      · omega
      · split <;> omega

/-- What 'whole' answers, in both ways. -/
def Out (f : Nat → Int) (m n : Nat) (fin : Bool) (r : Int) : Prop := (0 ≤ r → dec f m fin = (r, (n : Int), false)) ∧ (r < 0 → dec f m fin = (-1, 1, false))
theorem out_no {f : Nat → Int} {m n : Nat} {fin : Bool} (h : dec f m fin = (-1, 1, false)) : Out f m n fin (-1) := ⟨fun a => absurd a (by omega), fun _ => h⟩
theorem out_yes {f : Nat → Int} {m n : Nat} {fin : Bool} {r : Int} (h0 : 0 ≤ r) (h : dec f m fin = (r, (n : Int), false)) : Out f m n fin r := ⟨fun _ => h, fun a => absurd a (by omega)⟩
theorem not_fit_neg {f : Nat → Int} {n : Nat} : ¬ Fit f n (-1) := fun h => by
  have := (isPt_iff (-1)).1 h.1
  omega

theorem whole_dec1 {f : Nat → Int} {m : Nat} {fin : Bool} {r : Int} (hz : ∀ i, 0 ≤ f i ∧ f i ≤ 255) (hm : 1 ≤ m) (hc : f 0 < 128) (h : WR f 1 r) : Out f m 1 fin r := by
  obtain ⟨q, hB, hF⟩ := h
  have z0 := hz 0
  have hq : q = f 0 := by
    rcases hB with ⟨⟨j, a, b, _⟩, _⟩ | ⟨_, e⟩
    · omega
    · simpa [base, jr] using e
  subst hq
  rcases hF with ⟨_, rfl⟩ | ⟨hn, _⟩
  · refine out_yes z0.1 ?_
    have := (dec_full (fin := fin) (f := f) (n := 1) (by omega) (by omega) hm (sizeOf_1 hc)).1 (fun j a b => absurd b (by omega))
    rw [this]; simp [p0, jn]
  · exact absurd (fit1 z0.1 hc) hn

theorem whole_dec2 {f : Nat → Int} {m : Nat} {fin : Bool} {r : Int} (hm : 2 ≤ m) (hc : 192 ≤ f 0) (hc' : f 0 < 224) (h : WR f 2 r) : Out f m 2 fin r := by
  obtain ⟨q, hB, hF⟩ := h
  have hd := dec_full (fin := fin) (f := f) (n := 2) (m := m) (by omega) (by omega) hm
  have no : ¬ (194 ≤ f 0 ∧ tail f 1) → dec f m fin = (-1, 1, false) := fun hno => by
    by_cases g : 194 ≤ f 0
    · exact (hd (sizeOf_2 g hc')).2 (fun a => hno ⟨g, tail_of_ok ((ok_all (by omega)).1 a).1⟩)
    · exact dec_zero (by omega) (sizeOf_0 (by omega) (by omega))
  rcases hB with ⟨⟨j, a, b, hj⟩, rfl⟩ | ⟨ht, hq⟩
  · obtain rfl : j = 1 := by omega
    rcases hF with ⟨hF, _⟩ | ⟨_, rfl⟩
    · exact absurd hF not_fit_neg
    · exact out_no (no (fun x => hj x.2))
  · have t1 := ht 1 (by omega) (by omega)
    have hq' : q = 64 * (f 0 - 192) + f 1 - 128 := hq
    have hfit := fit2 hq' hc hc' t1.1 t1.2
    rcases hF with ⟨hF, rfl⟩ | ⟨hF, rfl⟩
    · have g := hfit.1 hF
      refine out_yes (by have := t1.1; omega) ?_
      have l := lo2_eq (f 0)
      have k := hi2_eq (f 0)
      unfold tail at t1
      rw [(hd (sizeOf_2 g hc')).1 ((ok_all (by omega)).2 ⟨by omega, fun j a b => absurd b (by omega)⟩)]
      have e : jn (p0 2 (f 0)) f (2 - 1) = r := by
        show 64 * (f 0 % 32) + f 1 % 64 = r
        omega
      rw [e]
    · exact out_no (no (fun x => hF (hfit.2 x.1)))

theorem whole_dec3 {f : Nat → Int} {m : Nat} {fin : Bool} {r : Int} (hm : 3 ≤ m) (hc : 224 ≤ f 0) (hc' : f 0 < 240) (h : WR f 3 r) : Out f m 3 fin r := by
  obtain ⟨q, hB, hF⟩ := h
  have hd := dec_full (fin := fin) (f := f) (n := 3) (m := m) (by omega) (by omega) hm (sizeOf_3 hc hc')
  have ok := ok_all (f := f) (n := 3) (by omega)
  rcases hB with ⟨⟨j, a, b, hj⟩, rfl⟩ | ⟨ht, hq⟩
  · rcases hF with ⟨hF, _⟩ | ⟨_, rfl⟩
    · exact absurd hF not_fit_neg
    · refine out_no (hd.2 (fun x => hj ?_))
      have y := ok.1 x
      obtain rfl | rfl : j = 1 ∨ j = 2 := by omega
      · exact tail_of_ok y.1
      · exact y.2 2 (by omega) (by omega)
  · have t1 := ht 1 (by omega) (by omega)
    have t2 := ht 2 (by omega) (by omega)
    have hq' : q = 64 * (64 * (f 0 - 224) + f 1 - 128) + f 2 - 128 := hq
    have hfit := fit3 hq' hc hc' t1.1 t1.2 t2.1 t2.2
    rcases hF with ⟨hF, rfl⟩ | ⟨hF, rfl⟩
    · have g := hfit.1 hF
      unfold tail at t1 t2
      refine out_yes (by omega) ?_
      rw [hd.1 (ok.2 ⟨g, fun j a b => by obtain rfl : j = 2 := (by omega); exact t2⟩)]
      have e : jn (p0 3 (f 0)) f (3 - 1) = r := by
        show 64 * (64 * (f 0 % 16) + f 1 % 64) + f 2 % 64 = r
        omega
      rw [e]
    · exact out_no (hd.2 (fun x => hF (hfit.2 (ok.1 x).1)))

theorem whole_dec4 {f : Nat → Int} {m : Nat} {fin : Bool} {r : Int} (hm : 4 ≤ m) (hc : 240 ≤ f 0) (hc' : f 0 < 248) (h : WR f 4 r) : Out f m 4 fin r := by
  obtain ⟨q, hB, hF⟩ := h
  have hd := dec_full (fin := fin) (f := f) (n := 4) (m := m) (by omega) (by omega) hm
  have ok := ok_all (f := f) (n := 4) (by omega)
  have no : ¬ (f 0 < 245 ∧ ∀ j, 1 ≤ j → j < 4 → okAt f j) → dec f m fin = (-1, 1, false) := fun hno => by
    by_cases g : f 0 < 245
    · exact (hd (sizeOf_4 hc g)).2 (fun a => hno ⟨g, a⟩)
    · exact dec_zero (by omega) (sizeOf_5 (by omega))
  rcases hB with ⟨⟨j, a, b, hj⟩, rfl⟩ | ⟨ht, hq⟩
  · rcases hF with ⟨hF, _⟩ | ⟨_, rfl⟩
    · exact absurd hF not_fit_neg
    · refine out_no (no (fun x => hj ?_))
      have y := ok.1 x.2
      obtain rfl | rfl | rfl : j = 1 ∨ j = 2 ∨ j = 3 := by omega
      · exact tail_of_ok y.1
      · exact y.2 2 (by omega) (by omega)
      · exact y.2 3 (by omega) (by omega)
  · have t1 := ht 1 (by omega) (by omega)
    have t2 := ht 2 (by omega) (by omega)
    have t3 := ht 3 (by omega) (by omega)
    have hq' : q = 64 * (64 * (64 * (f 0 - 240) + f 1 - 128) + f 2 - 128) + f 3 - 128 := hq
    have hfit := fit4 hq' hc hc' t1.1 t1.2 t2.1 t2.2 t3.1 t3.2
    rcases hF with ⟨hF, rfl⟩ | ⟨hF, rfl⟩
    · have g := hfit.1 hF
      unfold tail at t1 t2 t3
      refine out_yes (by omega) ?_
      rw [(hd (sizeOf_4 hc g.1)).1 (ok.2 ⟨g.2, fun j a b => by
        obtain rfl | rfl : j = 2 ∨ j = 3 := by omega
        · exact t2
        · exact t3⟩)]
      have e : jn (p0 4 (f 0)) f (4 - 1) = r := by
        show 64 * (64 * (64 * (f 0 % 8) + f 1 % 64) + f 2 % 64) + f 3 % 64 = r
        omega
      rw [e]
    · exact out_no (no (fun x => hF (hfit.2 ⟨x.1, (ok.1 x.2).1⟩)))

theorem whole_dec {f : Nat → Int} {m n : Nat} {fin : Bool} {r : Int} (hz : ∀ i, 0 ≤ f i ∧ f i ≤ 255) (h1 : 0 < n) (hm : n ≤ m) (hl : long (f 0) = n) (h : WR f n r) : Out f m n fin r := by
  rcases long_cases hl h1 with ⟨rfl, a⟩ | ⟨rfl, a, b⟩ | ⟨rfl, a, b⟩ | ⟨rfl, a, b⟩
  · exact whole_dec1 hz hm a h
  · exact whole_dec2 hm a b h
  · exact whole_dec3 hm a b h
  · exact whole_dec4 hm a b h

def least (n : Nat) : Int := if n = 3 then 2048 else if n = 4 then 65536 else 128
/-- What 'might' answers, of the least and the greatest number. -/
def mightB (n : Nat) (a b : Int) : Bool :=
  if a < 0 ∨ b < 0 then false else decide (max a (least n) ≤ min b 1114111) && !(decide (55296 ≤ max a (least n)) && decide (min b 1114111 ≤ 57343))
theorem mightB_neg {n : Nat} {a b : Int} (h : a < 0 ∨ b < 0) : mightB n a b = false := by unfold mightB; rw [if_pos h]
theorem mightB_iff {n : Nat} {a b : Int} (h0 : 0 ≤ a) (h1 : 0 ≤ b) : mightB n a b = true ↔ max a (least n) ≤ min b 1114111 ∧ ¬ (55296 ≤ max a (least n) ∧ min b 1114111 ≤ 57343) := by
  unfold mightB
  rw [if_neg (by omega)]
  simp
  omega

/-- The cases in one: the bytes that are there may be, just if 'might' says so. -/
theorem might_of {f : Nat → Int} {m n : Nat} {x : Bool} (h1 : 1 ≤ m) (h4 : n ≤ 4) (hm : m < n) (hs : sizeOf (f 0) = n ∨ sizeOf (f 0) = 0)
    (hx : x = true ↔ sizeOf (f 0) = n ∧ ∀ j, 1 ≤ j → j < m → okAt f j) : dec f m false = if x = true then (-1, 0, true) else (-1, 1, false) := by
  by_cases h : x = true
  · rw [if_pos h]
    have := hx.1 h
    exact (dec_part h1 h4 hm this.1).1 this.2
  · rw [if_neg h]
    rw [hx] at h
    rcases hs with hs | hs
    · exact (dec_part h1 h4 hm hs).2.1 (fun a => h ⟨hs, a⟩)
    · exact dec_zero h1 hs

theorem dec_short_true {f : Nat → Int} {m n : Nat} (h1 : 1 ≤ m) (hm : m < n) (hl : long (f 0) = n) : dec f m true = (-1, 1, false) := by
  rcases long_cases hl (by omega) with ⟨rfl, c⟩ | ⟨rfl, c, d⟩ | ⟨rfl, c, d⟩ | ⟨rfl, c, d⟩
  · omega
  · by_cases g : 194 ≤ f 0
    · exact (dec_part h1 (by omega) hm (sizeOf_2 g d)).2.2
    · exact dec_zero h1 (sizeOf_0 (by omega) (by omega))
  · exact (dec_part h1 (by omega) hm (sizeOf_3 c d)).2.2
  · by_cases g : f 0 < 245
    · exact (dec_part h1 (by omega) hm (sizeOf_4 c g)).2.2
    · exact dec_zero h1 (sizeOf_5 (by omega))
theorem cat_tails {f : Nat → Int} {m n : Nat} {c : Int} (h0 : 128 ≤ c) (h1 : c ≤ 191) {r : Int} (h : BR (cat f m fun _ => c) n r) :
    (∃ j, 1 ≤ j ∧ j < m ∧ ¬ tail f j) ∧ r = -1 ∨ (∀ j, 1 ≤ j → j < min m n → tail f j) ∧ r = jr (cat f m (fun _ => c) 0 - base n) (cat f m fun _ => c) (n - 1) := by
  rcases h with ⟨⟨j, a, b, hj⟩, e⟩ | ⟨ht, e⟩
  · by_cases hjm : j < m
    · exact Or.inl ⟨⟨j, a, hjm, fun t => hj (by unfold tail at *; rw [cat_lt hjm]; exact t)⟩, e⟩
    · exact absurd (by unfold tail; rw [cat_ge (by omega)]; omega) hj
  · exact Or.inr ⟨fun j a b => by have := ht j a (by omega); unfold tail at *; rwa [cat_lt (by omega)] at this, e⟩

theorem might_dec {f : Nat → Int} {m n : Nat} {a b : Int} (h1 : 1 ≤ m) (hm : m < n) (hl : long (f 0) = n) (ha : BR (cat f m fun _ => 128) n a) (hb : BR (cat f m fun _ => 191) n b) :
    dec f m false = if mightB n a b = true then (-1, 0, true) else (-1, 1, false) := by
  have l := lo2_eq (f 0)
  have k := hi2_eq (f 0)
  have bad : (∃ j, 1 ≤ j ∧ j < m ∧ ¬ tail f j) → (a < 0 ∨ b < 0) → (sizeOf (f 0) = n ∨ sizeOf (f 0) = 0) → n ≤ 4 → dec f m false = if mightB n a b = true then (-1, 0, true) else (-1, 1, false) := by
    rintro ⟨j, c, d, hj⟩ hab hs h4
    refine might_of h1 h4 hm hs ⟨fun h => ?_, fun h => ?_⟩
    · rw [mightB_neg hab] at h; cases h
    · have := (ok_all (f := f) (n := m) (by omega)).1 h.2
      by_cases e : j = 1
      · subst e; exact absurd (tail_of_ok this.1) hj
      · exact absurd (this.2 j (by omega) d) hj
  rcases long_cases hl (by omega) with ⟨rfl, c⟩ | ⟨rfl, c, d⟩ | ⟨rfl, c, d⟩ | ⟨rfl, c, d⟩
  · omega
  · have hs : sizeOf (f 0) = ((2 : Nat) : Int) ∨ sizeOf (f 0) = 0 := by
      by_cases g : 194 ≤ f 0
      · exact Or.inl (sizeOf_2 g d)
      · exact Or.inr (sizeOf_0 (by omega) (by omega))
    have g2 : sizeOf (f 0) = ((2 : Nat) : Int) ↔ 194 ≤ f 0 := by
      by_cases g : 194 ≤ f 0
      · rw [sizeOf_2 g d]; simp [g]
      · rw [sizeOf_0 (by omega) (by omega)]; simp; omega
    obtain rfl : m = 1 := by omega
    rcases cat_tails (by omega) (by omega) ha with ⟨hj, e⟩ | ⟨ta, ea⟩
    · exact bad hj (by omega) hs (by omega)
    rcases cat_tails (by omega) (by omega) hb with ⟨hj, e⟩ | ⟨tb, eb⟩
    · exact bad hj (by omega) hs (by omega)
    have ea' : a = 64 * (f 0 - 192) + 128 - 128 := ea
    have eb' : b = 64 * (f 0 - 192) + 191 - 128 := eb
    refine might_of h1 (by omega) hm hs ?_
    rw [mightB_iff (by omega) (by omega), g2]
    simp only [least]
    constructor
    · intro x; exact ⟨by simp at x; omega, fun j a b => absurd b (by omega)⟩
    · intro x; have := x.1; simp; omega
  · have hs : sizeOf (f 0) = ((3 : Nat) : Int) := sizeOf_3 c d
    rcases cat_tails (by omega) (by omega) ha with ⟨hj, e⟩ | ⟨ta, ea⟩
    · exact bad hj (by omega) (Or.inl hs) (by omega)
    rcases cat_tails (by omega) (by omega) hb with ⟨hj, e⟩ | ⟨tb, eb⟩
    · exact bad hj (by omega) (Or.inl hs) (by omega)
    refine might_of h1 (by omega) hm (Or.inl hs) ?_
    obtain rfl | rfl : m = 1 ∨ m = 2 := by omega
    · have ea' : a = 64 * (64 * (f 0 - 224) + 128 - 128) + 128 - 128 := ea
      have eb' : b = 64 * (64 * (f 0 - 224) + 191 - 128) + 191 - 128 := eb
      rw [mightB_iff (by omega) (by omega)]
      simp only [least]
      constructor
      · intro x; exact ⟨hs, fun j a b => absurd b (by omega)⟩
      · intro x; simp; omega
    · have t1 := ta 1 (by omega) (by omega)
      unfold tail at t1
      have ea' : a = 64 * (64 * (f 0 - 224) + f 1 - 128) + 128 - 128 := ea
      have eb' : b = 64 * (64 * (f 0 - 224) + f 1 - 128) + 191 - 128 := eb
      rw [mightB_iff (by omega) (by omega), ok_all (by omega)]
      simp only [least]
      constructor
      · intro x; exact ⟨hs, by simp at x; omega, fun j a b => absurd b (by omega)⟩
      · intro x; have := x.2.1; simp; omega
  · have hs : sizeOf (f 0) = ((4 : Nat) : Int) ∨ sizeOf (f 0) = 0 := by
      by_cases g : f 0 < 245
      · exact Or.inl (sizeOf_4 c g)
      · exact Or.inr (sizeOf_5 (by omega))
    have g4 : sizeOf (f 0) = ((4 : Nat) : Int) ↔ f 0 < 245 := by
      by_cases g : f 0 < 245
      · rw [sizeOf_4 c g]; simp [g]
      · rw [sizeOf_5 (by omega)]; simp; omega
    rcases cat_tails (by omega) (by omega) ha with ⟨hj, e⟩ | ⟨ta, ea⟩
    · exact bad hj (by omega) hs (by omega)
    rcases cat_tails (by omega) (by omega) hb with ⟨hj, e⟩ | ⟨tb, eb⟩
    · exact bad hj (by omega) hs (by omega)
    refine might_of h1 (by omega) hm hs ?_
    rw [g4]
    obtain rfl | rfl | rfl : m = 1 ∨ m = 2 ∨ m = 3 := by omega
    · have ea' : a = 64 * (64 * (64 * (f 0 - 240) + 128 - 128) + 128 - 128) + 128 - 128 := ea
      have eb' : b = 64 * (64 * (64 * (f 0 - 240) + 191 - 128) + 191 - 128) + 191 - 128 := eb
      rw [mightB_iff (by omega) (by omega)]
      simp only [least]
      constructor
      · intro x; exact ⟨by simp at x; omega, fun j a b => absurd b (by omega)⟩
      · intro x; have := x.1; simp; omega
    · have t1 := ta 1 (by omega) (by omega)
      unfold tail at t1
      have ea' : a = 64 * (64 * (64 * (f 0 - 240) + f 1 - 128) + 128 - 128) + 128 - 128 := ea
      have eb' : b = 64 * (64 * (64 * (f 0 - 240) + f 1 - 128) + 191 - 128) + 191 - 128 := eb
      rw [mightB_iff (by omega) (by omega), ok_all (by omega)]
      simp only [least]
      constructor
      · intro x; exact ⟨by simp at x; omega, by simp at x; omega, fun j a b => absurd b (by omega)⟩
      · intro x; have := x.1; have := x.2.1; simp; omega
    · have t1 := ta 1 (by omega) (by omega)
      have t2 := ta 2 (by omega) (by omega)
      have ea' : a = 64 * (64 * (64 * (f 0 - 240) + f 1 - 128) + f 2 - 128) + 128 - 128 := ea
      have eb' : b = 64 * (64 * (64 * (f 0 - 240) + f 1 - 128) + f 2 - 128) + 191 - 128 := eb
      have t2' := t2
      unfold tail at t1 t2
      rw [mightB_iff (by omega) (by omega), ok_all (by omega)]
      simp only [least]
      constructor
      · intro x
        refine ⟨by simp at x; omega, by simp at x; omega, fun j a b => ?_⟩
        obtain rfl : j = 2 := by omega
        exact t2'
      · intro x; have := x.1; have := x.2.1; simp; omega

end Go.Proofs.YtecbmonbeogdjaaDoor.Utf

/-
  There and back: a code point's bytes are decoded to it, whatever stands behind; a part of them needs more.
-/
namespace Go.Proofs.YtecbmonbeogdjaaDoor.Utf

theorem enc_ok {p : Int} (h : isPt p = true) : 1 ≤ encN p ∧ encN p ≤ 4 ∧ sizeOf (encF p 0) = encN p ∧ (∀ j, 1 ≤ j → j < encN p → okAt (encF p) j) ∧ jn (p0 (encN p) (encF p 0)) (encF p) (encN p - 1) = p ∧ (encL p).length = encN p := by
  have hp := (isPt_iff p).1 h
  have l := lo2_eq (encF p 0)
  have k := hi2_eq (encF p 0)
  by_cases a : p < 128
  · have e := enc_1 a
    have e0 : encF p 0 = p := by unfold encF; rw [e.2]; rfl
    rw [e.1]
    refine ⟨by omega, by omega, by rw [e0]; exact sizeOf_1 a, fun j a b => absurd b (by omega), ?_, by rw [e.2]; rfl⟩
    simp [p0, jn, e0]
  by_cases b : p < 2048
  · have e := enc_2 (by omega) b
    have e0 : encF p 0 = 192 + p / 64 := by unfold encF; rw [e.2]; rfl
    have e1 : encF p 1 = 128 + p % 64 := by unfold encF; rw [e.2]; rfl
    rw [e.1]
    refine ⟨by omega, by omega, sizeOf_2 (by omega) (by omega), (ok_all (by omega)).2 ⟨by omega, fun j a b => absurd b (by omega)⟩, ?_, by rw [e.2]; rfl⟩
    show 64 * (encF p 0 % 32) + encF p 1 % 64 = p
    omega
  by_cases c : p < 65536
  · have e := enc_3 (by omega) c
    have e0 : encF p 0 = 224 + p / 4096 := by unfold encF; rw [e.2]; rfl
    have e1 : encF p 1 = 128 + p / 64 % 64 := by unfold encF; rw [e.2]; rfl
    have e2 : encF p 2 = 128 + p % 64 := by unfold encF; rw [e.2]; rfl
    rw [e.1]
    refine ⟨by omega, by omega, sizeOf_3 (by omega) (by omega), (ok_all (by omega)).2 ⟨by omega, fun j a b => ?_⟩, ?_, by rw [e.2]; rfl⟩
    · obtain rfl : j = 2 := by omega
      unfold tail; omega
    · show 64 * (64 * (encF p 0 % 16) + encF p 1 % 64) + encF p 2 % 64 = p
      omega
  · have e := enc_4 (p := p) (by omega)
    have e0 : encF p 0 = 240 + p / 262144 := by unfold encF; rw [e.2]; rfl
    have e1 : encF p 1 = 128 + p / 4096 % 64 := by unfold encF; rw [e.2]; rfl
    have e2 : encF p 2 = 128 + p / 64 % 64 := by unfold encF; rw [e.2]; rfl
    have e3 : encF p 3 = 128 + p % 64 := by unfold encF; rw [e.2]; rfl
    rw [e.1]
    refine ⟨by omega, by omega, sizeOf_4 (by omega) (by omega), (ok_all (by omega)).2 ⟨by omega, fun j a b => ?_⟩, ?_, by rw [e.2]; rfl⟩
    · obtain rfl | rfl : j = 2 ∨ j = 3 := by omega
      all_goals (unfold tail; omega)
    · show 64 * (64 * (64 * (encF p 0 % 8) + encF p 1 % 64) + encF p 2 % 64) + encF p 3 % 64 = p
      omega

theorem enc_dec {p : Int} {g : Nat → Int} {m : Nat} {fin : Bool} (h : isPt p = true) (hm : encN p ≤ m) (hg : ∀ i, i < encN p → g i = encF p i) : dec g m fin = (p, (encN p : Int), false) := by
  obtain ⟨h1, h4, hs, hok, hj, _⟩ := enc_ok h
  have e0 := hg 0 (by omega)
  have := (dec_full (f := g) (fin := fin) h1 h4 hm (by rw [e0]; exact hs)).1 (fun j a b => (okAt_congr (fun i hi => (hg i hi).symm) b).1 (hok j a b))
  rw [this, e0, jn_congr (g := encF p) hg _ (by omega), hj]
theorem enc_part {p : Int} {k : Nat} (h : isPt p = true) (hk : k < encN p) : dec (encF p) k false = (-1, 0, true) := by
  obtain ⟨h1, h4, hs, hok, _⟩ := enc_ok h
  by_cases h0 : k = 0
  · subst h0; simp [dec]
  · exact (dec_part (by omega) h4 hk hs).1 (fun j a b => hok j a (by omega))

end Go.Proofs.YtecbmonbeogdjaaDoor.Utf

/-
  The walk of package utf's Encode.
-/
namespace Go.Proofs.YtecbmonbeogdjaaDoor
open Go.RowKit
set_option linter.unusedVariables false

set_option maxHeartbeats 400000 in
theorem encode_no (p : Int) (w : World) (h : Utf.isPt p = false) :
    Calls Tryd.prog 37 #[.int .i64 p] w fun e w' => e = .returned (.tuple #[.slice none 0 0, .bool false]) ∧ w' = w := by
  have H := hid h
  clear h
  go_enter Tryd.func37, Tryd.ntmps37
  go_wp2_with fail
  refine (isPoint_calls _ _).mono ?_
  rintro e w ⟨rfl, rfl⟩
  rw [H.out]
  go_wp2_with fail
  go_ret2
  exact ⟨rfl, rfl⟩

/-- The world behind: one block more, with the code point's bytes. -/
def encW (w : World) (t : TypeId) (l : List Int) : World := w.alloc (.cells (l.map (Value.int .u8)).toArray t)

set_option maxHeartbeats 400000 in
theorem encode_1 (p : Int) (w : World) (h : Utf.isPt p = true) (h0 : 0 ≤ p) (h1 : p ≤ 1114111) (a : p < 128) :
    Calls Tryd.prog 37 #[.int .i64 p] w fun e w' => e = .returned (.tuple #[.slice (some ⟨w.heap.size, 0, none⟩) (Utf.encN p) (Utf.encN p), .bool true]) ∧ w' = encW w 5 (Utf.encL p) := by
  have H := hid h
  clear h
  have HE := hid (Utf.enc_1 (p := p) a)
  go_enter Tryd.func37, Tryd.ntmps37
  go_wp2_with fail
  refine (isPoint_calls _ _).mono ?_
  rintro e w ⟨rfl, rfl⟩
  rw [H.out]
  go_wp2_with fail
  go_ret2
  exact ⟨by rw [HE.out.1]; rfl, by rw [HE.out.2]; rfl⟩

set_option maxHeartbeats 400000 in
theorem encode_2 (p : Int) (w : World) (h : Utf.isPt p = true) (h0 : 0 ≤ p) (h1 : p ≤ 1114111) (a : ¬ p < 128) (b : p < 2048) :
    Calls Tryd.prog 37 #[.int .i64 p] w fun e w' => e = .returned (.tuple #[.slice (some ⟨w.heap.size, 0, none⟩) (Utf.encN p) (Utf.encN p), .bool true]) ∧ w' = encW w 5 (Utf.encL p) := by
  have H := hid h
  clear h
  have hor : bits .or .i64 192 (p / 64) = 192 + p / 64 := Utf.i64_or32 _ _ (by omega) (by omega) (by omega) (by omega) (by omega)
  have HE := hid (Utf.enc_2 (p := p) (by omega) b)
  go_enter Tryd.func37, Tryd.ntmps37
  go_wp2_with fail
  refine (isPoint_calls _ _).mono ?_
  rintro e w ⟨rfl, rfl⟩
  rw [H.out]
  go_wp2_with fail
  refine (follow_calls (p) (by omega) (by omega) _).mono ?_
  rintro e w ⟨rfl, rfl⟩
  go_wp2_with fail
  go_ret2
  exact ⟨by rw [HE.out.1]; rfl, by rw [HE.out.2]; rfl⟩

set_option maxHeartbeats 400000 in
theorem encode_3 (p : Int) (w : World) (h : Utf.isPt p = true) (h0 : 0 ≤ p) (h1 : p ≤ 1114111) (a : ¬ p < 128) (b : ¬ p < 2048) (c : p < 65536) :
    Calls Tryd.prog 37 #[.int .i64 p] w fun e w' => e = .returned (.tuple #[.slice (some ⟨w.heap.size, 0, none⟩) (Utf.encN p) (Utf.encN p), .bool true]) ∧ w' = encW w 5 (Utf.encL p) := by
  have H := hid h
  clear h
  have hor : bits .or .i64 224 (p / 4096) = 224 + p / 4096 := Utf.i64_or16 _ _ (by omega) (by omega) (by omega) (by omega) (by omega)
  have HE := hid (Utf.enc_3 (p := p) (by omega) c)
  go_enter Tryd.func37, Tryd.ntmps37
  go_wp2_with fail
  refine (isPoint_calls _ _).mono ?_
  rintro e w ⟨rfl, rfl⟩
  rw [H.out]
  go_wp2_with fail
  refine (follow_calls (p / 64) (by omega) (by omega) _).mono ?_
  rintro e w ⟨rfl, rfl⟩
  go_wp2_with fail
  refine (follow_calls (p) (by omega) (by omega) _).mono ?_
  rintro e w ⟨rfl, rfl⟩
  go_wp2_with fail
  go_ret2
  exact ⟨by rw [HE.out.1]; rfl, by rw [HE.out.2]; rfl⟩

set_option maxHeartbeats 400000 in
theorem encode_4 (p : Int) (w : World) (h : Utf.isPt p = true) (h0 : 0 ≤ p) (h1 : p ≤ 1114111) (a : ¬ p < 128) (b : ¬ p < 2048) (c : ¬ p < 65536) :
    Calls Tryd.prog 37 #[.int .i64 p] w fun e w' => e = .returned (.tuple #[.slice (some ⟨w.heap.size, 0, none⟩) (Utf.encN p) (Utf.encN p), .bool true]) ∧ w' = encW w 5 (Utf.encL p) := by
  have H := hid h
  clear h
  have hor : bits .or .i64 240 (p / 262144) = 240 + p / 262144 := Utf.i64_or16 _ _ (by omega) (by omega) (by omega) (by omega) (by omega)
  have HE := hid (Utf.enc_4 (p := p) (by omega))
  go_enter Tryd.func37, Tryd.ntmps37
  go_wp2_with fail
  refine (isPoint_calls _ _).mono ?_
  rintro e w ⟨rfl, rfl⟩
  rw [H.out]
  go_wp2_with fail
  refine (follow_calls (p / 4096) (by omega) (by omega) _).mono ?_
  rintro e w ⟨rfl, rfl⟩
  go_wp2_with fail
  refine (follow_calls (p / 64) (by omega) (by omega) _).mono ?_
  rintro e w ⟨rfl, rfl⟩
  go_wp2_with fail
  refine (follow_calls (p) (by omega) (by omega) _).mono ?_
  rintro e w ⟨rfl, rfl⟩
  go_wp2_with fail
  go_ret2
  exact ⟨by rw [HE.out.1]; rfl, by rw [HE.out.2]; rfl⟩

theorem encode_yes (p : Int) (w : World) (h : Utf.isPt p = true) :
    Calls Tryd.prog 37 #[.int .i64 p] w fun e w' => e = .returned (.tuple #[.slice (some ⟨w.heap.size, 0, none⟩) (Utf.encN p) (Utf.encN p), .bool true]) ∧ w' = encW w 5 (Utf.encL p) := by
  have hp := (Utf.isPt_iff p).1 h
  by_cases a : p < 128
  · exact encode_1 p w h hp.1 hp.2.1 a
  · by_cases b : p < 2048
    · exact encode_2 p w h hp.1 hp.2.1 a b
    · by_cases c : p < 65536
      · exact encode_3 p w h hp.1 hp.2.1 a b c
      · exact encode_4 p w h hp.1 hp.2.1 a b c

theorem encW_below (w : World) (t : TypeId) (l : List Int) : Below w.heap.size w (encW w t l) := (Below.refl _ _).alloc (Nat.le_refl _) _
theorem encW_size (w : World) (t : TypeId) (l : List Int) : (encW w t l).heap.size = w.heap.size + 1 := by simp [encW]
/-- The bytes that Encode answers, as a slice. -/
theorem encW_sl (w : World) (t : TypeId) {p : Int} (h : Utf.isPt p = true) : Sl (encW w t (Utf.encL p)) (some ⟨w.heap.size, 0, none⟩) (Utf.encN p) (Utf.encN p) (Utf.encF p) := by
  have hp := (Utf.isPt_iff p).1 h
  have he := Utf.enc_ok h
  refine ⟨Nat.le_refl _, by unfold maxLen; omega, Utf.encF_bd p hp.1 hp.2.1, fun h => absurd h (by simp), fun _ => ⟨_, _, rfl, by rw [encW_size]; omega, fun i hi => ?_⟩⟩
  unfold encW
  rw [World.cell?_alloc_new, Nat.zero_add]
  have hi' : i < (Utf.encL p).length := by omega
  simp [hi', Utf.encF]
end Go.Proofs.YtecbmonbeogdjaaDoor
