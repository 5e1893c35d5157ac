/-
  The reference's Decode, case by case, comes to 'dec'.
-/
import Derived.Test.YtaejoleijmihhaaUtfMathB
namespace Go.Proofs.Ytaejoleijmihhaa.Utf

theorem long_cases {c : Int} {n : Nat} (h : long c = n) (h0 : 0 < n) : (n = 1 ∧ c < 128) ∨ (n = 2 ∧ 192 ≤ c ∧ c < 224) ∨ (n = 3 ∧ 224 ≤ c ∧ c < 240) ∨ (n = 4 ∧ 240 ≤ c ∧ c < 248) := by
  unfold long at h
  by_cases a : c < 128
  · rw [if_pos a] at h; omega
  · rw [if_neg a] at h
    by_cases b : 192 ≤ c ∧ c < 224
    · rw [if_pos b] at h; omega
    · rw [if_neg b] at h
      by_cases d : 224 ≤ c ∧ c < 240
      · rw [if_pos d] at h; omega
      · rw [if_neg d] at h
        by_cases e : 240 ≤ c ∧ c < 248
        · rw [if_pos e] at h; omega
        · rw [if_neg e] at h; omega
theorem long_zero {c : Int} (h : long c = 0) : sizeOf c = 0 := by
  unfold long at h
  by_cases a : c < 128
  · rw [if_pos a] at h; omega
  · rw [if_neg a] at h
    by_cases b : 192 ≤ c ∧ c < 224
    · rw [if_pos b] at h; omega
    · rw [if_neg b] at h
      by_cases d : 224 ≤ c ∧ c < 240
      · rw [if_pos d] at h; omega
      · rw [if_neg d] at h
        by_cases e : 240 ≤ c ∧ c < 248
        · rw [if_pos e] at h; omega
        · by_cases g : c < 194
          · exact sizeOf_0 (by omega) g
          · exact sizeOf_5 (by omega)
theorem long_bd (c : Int) : 0 ≤ long c ∧ long c ≤ 4 := by
  unfold long
  split
  · omega
  · split
    · omega
    · split
      · omega
      · split <;> omega

/-- What 'whole' answers, in both ways. -/
def Out (f : Nat → Int) (m n : Nat) (fin : Bool) (r : Int) : Prop := (0 ≤ r → dec f m fin = (r, (n : Int), false)) ∧ (r < 0 → dec f m fin = (-1, 1, false))
theorem out_no {f : Nat → Int} {m n : Nat} {fin : Bool} (h : dec f m fin = (-1, 1, false)) : Out f m n fin (-1) := ⟨fun a => absurd a (by omega), fun _ => h⟩
theorem out_yes {f : Nat → Int} {m n : Nat} {fin : Bool} {r : Int} (h0 : 0 ≤ r) (h : dec f m fin = (r, (n : Int), false)) : Out f m n fin r := ⟨fun _ => h, fun a => absurd a (by omega)⟩
theorem not_fit_neg {f : Nat → Int} {n : Nat} : ¬ Fit f n (-1) := fun h => by
  have := (isPt_iff (-1)).1 h.1
  omega

theorem whole_dec1 {f : Nat → Int} {m : Nat} {fin : Bool} {r : Int} (hz : ∀ i, 0 ≤ f i ∧ f i ≤ 255) (hm : 1 ≤ m) (hc : f 0 < 128) (h : WR f 1 r) : Out f m 1 fin r := by
  obtain ⟨q, hB, hF⟩ := h
  have z0 := hz 0
  have hq : q = f 0 := by
    rcases hB with ⟨⟨j, a, b, _⟩, _⟩ | ⟨_, e⟩
    · omega
    · simpa [base, jr] using e
  subst hq
  rcases hF with ⟨_, rfl⟩ | ⟨hn, _⟩
  · refine out_yes z0.1 ?_
    have := (dec_full (fin := fin) (f := f) (n := 1) (by omega) (by omega) hm (sizeOf_1 hc)).1 (fun j a b => absurd b (by omega))
    rw [this]; simp [p0, jn]
  · exact absurd (fit1 z0.1 hc) hn

theorem whole_dec2 {f : Nat → Int} {m : Nat} {fin : Bool} {r : Int} (hm : 2 ≤ m) (hc : 192 ≤ f 0) (hc' : f 0 < 224) (h : WR f 2 r) : Out f m 2 fin r := by
  obtain ⟨q, hB, hF⟩ := h
  have hd := dec_full (fin := fin) (f := f) (n := 2) (m := m) (by omega) (by omega) hm
  have no : ¬ (194 ≤ f 0 ∧ tail f 1) → dec f m fin = (-1, 1, false) := fun hno => by
    by_cases g : 194 ≤ f 0
    · exact (hd (sizeOf_2 g hc')).2 (fun a => hno ⟨g, tail_of_ok ((ok_all (by omega)).1 a).1⟩)
    · exact dec_zero (by omega) (sizeOf_0 (by omega) (by omega))
  rcases hB with ⟨⟨j, a, b, hj⟩, rfl⟩ | ⟨ht, hq⟩
  · obtain rfl : j = 1 := by omega
    rcases hF with ⟨hF, _⟩ | ⟨_, rfl⟩
    · exact absurd hF not_fit_neg
    · exact out_no (no (fun x => hj x.2))
  · have t1 := ht 1 (by omega) (by omega)
    have hq' : q = 64 * (f 0 - 192) + f 1 - 128 := hq
    have hfit := fit2 hq' hc hc' t1.1 t1.2
    rcases hF with ⟨hF, rfl⟩ | ⟨hF, rfl⟩
    · have g := hfit.1 hF
      refine out_yes (by have := t1.1; omega) ?_
      have l := lo2_eq (f 0)
      have k := hi2_eq (f 0)
      unfold tail at t1
      rw [(hd (sizeOf_2 g hc')).1 ((ok_all (by omega)).2 ⟨by omega, fun j a b => absurd b (by omega)⟩)]
      have e : jn (p0 2 (f 0)) f (2 - 1) = r := by
        show 64 * (f 0 % 32) + f 1 % 64 = r
        omega
      rw [e]
    · exact out_no (no (fun x => hF (hfit.2 x.1)))

theorem whole_dec3 {f : Nat → Int} {m : Nat} {fin : Bool} {r : Int} (hm : 3 ≤ m) (hc : 224 ≤ f 0) (hc' : f 0 < 240) (h : WR f 3 r) : Out f m 3 fin r := by
  obtain ⟨q, hB, hF⟩ := h
  have hd := dec_full (fin := fin) (f := f) (n := 3) (m := m) (by omega) (by omega) hm (sizeOf_3 hc hc')
  have ok := ok_all (f := f) (n := 3) (by omega)
  rcases hB with ⟨⟨j, a, b, hj⟩, rfl⟩ | ⟨ht, hq⟩
  · rcases hF with ⟨hF, _⟩ | ⟨_, rfl⟩
    · exact absurd hF not_fit_neg
    · refine out_no (hd.2 (fun x => hj ?_))
      have y := ok.1 x
      obtain rfl | rfl : j = 1 ∨ j = 2 := by omega
      · exact tail_of_ok y.1
      · exact y.2 2 (by omega) (by omega)
  · have t1 := ht 1 (by omega) (by omega)
    have t2 := ht 2 (by omega) (by omega)
    have hq' : q = 64 * (64 * (f 0 - 224) + f 1 - 128) + f 2 - 128 := hq
    have hfit := fit3 hq' hc hc' t1.1 t1.2 t2.1 t2.2
    rcases hF with ⟨hF, rfl⟩ | ⟨hF, rfl⟩
    · have g := hfit.1 hF
      unfold tail at t1 t2
      refine out_yes (by omega) ?_
      rw [hd.1 (ok.2 ⟨g, fun j a b => by obtain rfl : j = 2 := (by omega); exact t2⟩)]
      have e : jn (p0 3 (f 0)) f (3 - 1) = r := by
        show 64 * (64 * (f 0 % 16) + f 1 % 64) + f 2 % 64 = r
        omega
      rw [e]
    · exact out_no (hd.2 (fun x => hF (hfit.2 (ok.1 x).1)))

theorem whole_dec4 {f : Nat → Int} {m : Nat} {fin : Bool} {r : Int} (hm : 4 ≤ m) (hc : 240 ≤ f 0) (hc' : f 0 < 248) (h : WR f 4 r) : Out f m 4 fin r := by
  obtain ⟨q, hB, hF⟩ := h
  have hd := dec_full (fin := fin) (f := f) (n := 4) (m := m) (by omega) (by omega) hm
  have ok := ok_all (f := f) (n := 4) (by omega)
  have no : ¬ (f 0 < 245 ∧ ∀ j, 1 ≤ j → j < 4 → okAt f j) → dec f m fin = (-1, 1, false) := fun hno => by
    by_cases g : f 0 < 245
    · exact (hd (sizeOf_4 hc g)).2 (fun a => hno ⟨g, a⟩)
    · exact dec_zero (by omega) (sizeOf_5 (by omega))
  rcases hB with ⟨⟨j, a, b, hj⟩, rfl⟩ | ⟨ht, hq⟩
  · rcases hF with ⟨hF, _⟩ | ⟨_, rfl⟩
    · exact absurd hF not_fit_neg
    · refine out_no (no (fun x => hj ?_))
      have y := ok.1 x.2
      obtain rfl | rfl | rfl : j = 1 ∨ j = 2 ∨ j = 3 := by omega
      · exact tail_of_ok y.1
      · exact y.2 2 (by omega) (by omega)
      · exact y.2 3 (by omega) (by omega)
  · have t1 := ht 1 (by omega) (by omega)
    have t2 := ht 2 (by omega) (by omega)
    have t3 := ht 3 (by omega) (by omega)
    have hq' : q = 64 * (64 * (64 * (f 0 - 240) + f 1 - 128) + f 2 - 128) + f 3 - 128 := hq
    have hfit := fit4 hq' hc hc' t1.1 t1.2 t2.1 t2.2 t3.1 t3.2
    rcases hF with ⟨hF, rfl⟩ | ⟨hF, rfl⟩
    · have g := hfit.1 hF
      unfold tail at t1 t2 t3
      refine out_yes (by omega) ?_
      rw [(hd (sizeOf_4 hc g.1)).1 (ok.2 ⟨g.2, fun j a b => by
        obtain rfl | rfl : j = 2 ∨ j = 3 := by omega
        · exact t2
        · exact t3⟩)]
      have e : jn (p0 4 (f 0)) f (4 - 1) = r := by
        show 64 * (64 * (64 * (f 0 % 8) + f 1 % 64) + f 2 % 64) + f 3 % 64 = r
        omega
      rw [e]
    · exact out_no (no (fun x => hF (hfit.2 ⟨x.1, (ok.1 x.2).1⟩)))

theorem whole_dec {f : Nat → Int} {m n : Nat} {fin : Bool} {r : Int} (hz : ∀ i, 0 ≤ f i ∧ f i ≤ 255) (h1 : 0 < n) (hm : n ≤ m) (hl : long (f 0) = n) (h : WR f n r) : Out f m n fin r := by
  rcases long_cases hl h1 with ⟨rfl, a⟩ | ⟨rfl, a, b⟩ | ⟨rfl, a, b⟩ | ⟨rfl, a, b⟩
  · exact whole_dec1 hz hm a h
  · exact whole_dec2 hm a b h
  · exact whole_dec3 hm a b h
  · exact whole_dec4 hm a b h

def least (n : Nat) : Int := if n = 3 then 2048 else if n = 4 then 65536 else 128
/-- What 'might' answers, of the least and the greatest number. -/
def mightB (n : Nat) (a b : Int) : Bool :=
  if a < 0 ∨ b < 0 then false else decide (max a (least n) ≤ min b 1114111) && !(decide (55296 ≤ max a (least n)) && decide (min b 1114111 ≤ 57343))
theorem mightB_neg {n : Nat} {a b : Int} (h : a < 0 ∨ b < 0) : mightB n a b = false := by unfold mightB; rw [if_pos h]
theorem mightB_iff {n : Nat} {a b : Int} (h0 : 0 ≤ a) (h1 : 0 ≤ b) : mightB n a b = true ↔ max a (least n) ≤ min b 1114111 ∧ ¬ (55296 ≤ max a (least n) ∧ min b 1114111 ≤ 57343) := by
  unfold mightB
  rw [if_neg (by omega)]
  simp
  omega

/-- The cases in one: the bytes that are there may be, just if 'might' says so. -/
theorem might_of {f : Nat → Int} {m n : Nat} {x : Bool} (h1 : 1 ≤ m) (h4 : n ≤ 4) (hm : m < n) (hs : sizeOf (f 0) = n ∨ sizeOf (f 0) = 0)
    (hx : x = true ↔ sizeOf (f 0) = n ∧ ∀ j, 1 ≤ j → j < m → okAt f j) : dec f m false = if x = true then (-1, 0, true) else (-1, 1, false) := by
  by_cases h : x = true
  · rw [if_pos h]
    have := hx.1 h
    exact (dec_part h1 h4 hm this.1).1 this.2
  · rw [if_neg h]
    rw [hx] at h
    rcases hs with hs | hs
    · exact (dec_part h1 h4 hm hs).2.1 (fun a => h ⟨hs, a⟩)
    · exact dec_zero h1 hs

theorem dec_short_true {f : Nat → Int} {m n : Nat} (h1 : 1 ≤ m) (hm : m < n) (hl : long (f 0) = n) : dec f m true = (-1, 1, false) := by
  rcases long_cases hl (by omega) with ⟨rfl, c⟩ | ⟨rfl, c, d⟩ | ⟨rfl, c, d⟩ | ⟨rfl, c, d⟩
  · omega
  · by_cases g : 194 ≤ f 0
    · exact (dec_part h1 (by omega) hm (sizeOf_2 g d)).2.2
    · exact dec_zero h1 (sizeOf_0 (by omega) (by omega))
  · exact (dec_part h1 (by omega) hm (sizeOf_3 c d)).2.2
  · by_cases g : f 0 < 245
    · exact (dec_part h1 (by omega) hm (sizeOf_4 c g)).2.2
    · exact dec_zero h1 (sizeOf_5 (by omega))
theorem cat_tails {f : Nat → Int} {m n : Nat} {c : Int} (h0 : 128 ≤ c) (h1 : c ≤ 191) {r : Int} (h : BR (cat f m fun _ => c) n r) :
    (∃ j, 1 ≤ j ∧ j < m ∧ ¬ tail f j) ∧ r = -1 ∨ (∀ j, 1 ≤ j → j < min m n → tail f j) ∧ r = jr (cat f m (fun _ => c) 0 - base n) (cat f m fun _ => c) (n - 1) := by
  rcases h with ⟨⟨j, a, b, hj⟩, e⟩ | ⟨ht, e⟩
  · by_cases hjm : j < m
    · exact Or.inl ⟨⟨j, a, hjm, fun t => hj (by unfold tail at *; rw [cat_lt hjm]; exact t)⟩, e⟩
    · exact absurd (by unfold tail; rw [cat_ge (by omega)]; omega) hj
  · exact Or.inr ⟨fun j a b => by have := ht j a (by omega); unfold tail at *; rwa [cat_lt (by omega)] at this, e⟩

theorem might_dec {f : Nat → Int} {m n : Nat} {a b : Int} (h1 : 1 ≤ m) (hm : m < n) (hl : long (f 0) = n) (ha : BR (cat f m fun _ => 128) n a) (hb : BR (cat f m fun _ => 191) n b) :
    dec f m false = if mightB n a b = true then (-1, 0, true) else (-1, 1, false) := by
  have l := lo2_eq (f 0)
  have k := hi2_eq (f 0)
  have bad : (∃ j, 1 ≤ j ∧ j < m ∧ ¬ tail f j) → (a < 0 ∨ b < 0) → (sizeOf (f 0) = n ∨ sizeOf (f 0) = 0) → n ≤ 4 → dec f m false = if mightB n a b = true then (-1, 0, true) else (-1, 1, false) := by
    rintro ⟨j, c, d, hj⟩ hab hs h4
    refine might_of h1 h4 hm hs ⟨fun h => ?_, fun h => ?_⟩
    · rw [mightB_neg hab] at h; cases h
    · have := (ok_all (f := f) (n := m) (by omega)).1 h.2
      by_cases e : j = 1
      · subst e; exact absurd (tail_of_ok this.1) hj
      · exact absurd (this.2 j (by omega) d) hj
  rcases long_cases hl (by omega) with ⟨rfl, c⟩ | ⟨rfl, c, d⟩ | ⟨rfl, c, d⟩ | ⟨rfl, c, d⟩
  · omega
  · have hs : sizeOf (f 0) = ((2 : Nat) : Int) ∨ sizeOf (f 0) = 0 := by
      by_cases g : 194 ≤ f 0
      · exact Or.inl (sizeOf_2 g d)
      · exact Or.inr (sizeOf_0 (by omega) (by omega))
    have g2 : sizeOf (f 0) = ((2 : Nat) : Int) ↔ 194 ≤ f 0 := by
      by_cases g : 194 ≤ f 0
      · rw [sizeOf_2 g d]; simp [g]
      · rw [sizeOf_0 (by omega) (by omega)]; simp; omega
    obtain rfl : m = 1 := by omega
    rcases cat_tails (by omega) (by omega) ha with ⟨hj, e⟩ | ⟨ta, ea⟩
    · exact bad hj (by omega) hs (by omega)
    rcases cat_tails (by omega) (by omega) hb with ⟨hj, e⟩ | ⟨tb, eb⟩
    · exact bad hj (by omega) hs (by omega)
    have ea' : a = 64 * (f 0 - 192) + 128 - 128 := ea
    have eb' : b = 64 * (f 0 - 192) + 191 - 128 := eb
    refine might_of h1 (by omega) hm hs ?_
    rw [mightB_iff (by omega) (by omega), g2]
    simp only [least]
    constructor
    · intro x; exact ⟨by simp at x; omega, fun j a b => absurd b (by omega)⟩
    · intro x; have := x.1; simp; omega
  · have hs : sizeOf (f 0) = ((3 : Nat) : Int) := sizeOf_3 c d
    rcases cat_tails (by omega) (by omega) ha with ⟨hj, e⟩ | ⟨ta, ea⟩
    · exact bad hj (by omega) (Or.inl hs) (by omega)
    rcases cat_tails (by omega) (by omega) hb with ⟨hj, e⟩ | ⟨tb, eb⟩
    · exact bad hj (by omega) (Or.inl hs) (by omega)
    refine might_of h1 (by omega) hm (Or.inl hs) ?_
    obtain rfl | rfl : m = 1 ∨ m = 2 := by omega
    · have ea' : a = 64 * (64 * (f 0 - 224) + 128 - 128) + 128 - 128 := ea
      have eb' : b = 64 * (64 * (f 0 - 224) + 191 - 128) + 191 - 128 := eb
      rw [mightB_iff (by omega) (by omega)]
      simp only [least]
      constructor
      · intro x; exact ⟨hs, fun j a b => absurd b (by omega)⟩
      · intro x; simp; omega
    · have t1 := ta 1 (by omega) (by omega)
      unfold tail at t1
      have ea' : a = 64 * (64 * (f 0 - 224) + f 1 - 128) + 128 - 128 := ea
      have eb' : b = 64 * (64 * (f 0 - 224) + f 1 - 128) + 191 - 128 := eb
      rw [mightB_iff (by omega) (by omega), ok_all (by omega)]
      simp only [least]
      constructor
      · intro x; exact ⟨hs, by simp at x; omega, fun j a b => absurd b (by omega)⟩
      · intro x; have := x.2.1; simp; omega
  · have hs : sizeOf (f 0) = ((4 : Nat) : Int) ∨ sizeOf (f 0) = 0 := by
      by_cases g : f 0 < 245
      · exact Or.inl (sizeOf_4 c g)
      · exact Or.inr (sizeOf_5 (by omega))
    have g4 : sizeOf (f 0) = ((4 : Nat) : Int) ↔ f 0 < 245 := by
      by_cases g : f 0 < 245
      · rw [sizeOf_4 c g]; simp [g]
      · rw [sizeOf_5 (by omega)]; simp; omega
    rcases cat_tails (by omega) (by omega) ha with ⟨hj, e⟩ | ⟨ta, ea⟩
    · exact bad hj (by omega) hs (by omega)
    rcases cat_tails (by omega) (by omega) hb with ⟨hj, e⟩ | ⟨tb, eb⟩
    · exact bad hj (by omega) hs (by omega)
    refine might_of h1 (by omega) hm hs ?_
    rw [g4]
    obtain rfl | rfl | rfl : m = 1 ∨ m = 2 ∨ m = 3 := by omega
    · have ea' : a = 64 * (64 * (64 * (f 0 - 240) + 128 - 128) + 128 - 128) + 128 - 128 := ea
      have eb' : b = 64 * (64 * (64 * (f 0 - 240) + 191 - 128) + 191 - 128) + 191 - 128 := eb
      rw [mightB_iff (by omega) (by omega)]
      simp only [least]
      constructor
      · intro x; exact ⟨by simp at x; omega, fun j a b => absurd b (by omega)⟩
      · intro x; have := x.1; simp; omega
    · have t1 := ta 1 (by omega) (by omega)
      unfold tail at t1
      have ea' : a = 64 * (64 * (64 * (f 0 - 240) + f 1 - 128) + 128 - 128) + 128 - 128 := ea
      have eb' : b = 64 * (64 * (64 * (f 0 - 240) + f 1 - 128) + 191 - 128) + 191 - 128 := eb
      rw [mightB_iff (by omega) (by omega), ok_all (by omega)]
      simp only [least]
      constructor
      · intro x; exact ⟨by simp at x; omega, by simp at x; omega, fun j a b => absurd b (by omega)⟩
      · intro x; have := x.1; have := x.2.1; simp; omega
    · have t1 := ta 1 (by omega) (by omega)
      have t2 := ta 2 (by omega) (by omega)
      have ea' : a = 64 * (64 * (64 * (f 0 - 240) + f 1 - 128) + f 2 - 128) + 128 - 128 := ea
      have eb' : b = 64 * (64 * (64 * (f 0 - 240) + f 1 - 128) + f 2 - 128) + 191 - 128 := eb
      have t2' := t2
      unfold tail at t1 t2
      rw [mightB_iff (by omega) (by omega), ok_all (by omega)]
      simp only [least]
      constructor
      · intro x
        refine ⟨by simp at x; omega, by simp at x; omega, fun j a b => ?_⟩
        obtain rfl : j = 2 := by omega
        exact t2'
      · intro x; have := x.1; have := x.2.1; simp; omega

end Go.Proofs.Ytaejoleijmihhaa.Utf
