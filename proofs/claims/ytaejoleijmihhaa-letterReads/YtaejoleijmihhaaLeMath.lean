/-
  Letters of bytes, their writing, and what is read of one: plain mathematics.
-/
import Derived.Test.YtaejoleijmihhaaUtfMathD
import Derived.Test.YtaejoleijmihhaaSl
namespace Go.Proofs.Ytaejoleijmihhaa.Le

/-- A byte's letter. -/
def ltr (b : Int) : Int := if b = 173 then 323 else if 127 ≤ b ∧ b ≤ 160 then b + 162 else if b ≤ 32 then b + 256 else b
/-- The byte of a letter, or -1. -/
def byt (p : Int) : Int := if p = 323 then 173 else if 289 ≤ p ∧ p ≤ 322 then p - 162 else if 256 ≤ p ∧ p ≤ 288 then p - 256 else if 33 ≤ p ∧ p ≤ 126 ∨ 161 ≤ p ∧ p ≤ 172 ∨ 174 ≤ p ∧ p ≤ 255 then p else -1

theorem ltr_cases (b : Int) : (b = 173 → ltr b = 323) ∧ (127 ≤ b ∧ b ≤ 160 → ltr b = b + 162) ∧ (b ≤ 32 → ltr b = b + 256) ∧ (32 < b ∧ b < 127 ∨ 160 < b ∧ b ≠ 173 → ltr b = b) := by
  unfold ltr
  refine ⟨fun h => by rw [if_pos h], fun h => by rw [if_neg (by omega), if_pos h], fun h => by rw [if_neg (by omega), if_neg (by omega), if_pos h], fun h => by rw [if_neg (by omega), if_neg (by omega), if_neg (by omega)]⟩
theorem ltr_bd {b : Int} (h0 : 0 ≤ b) (h1 : b ≤ 255) : 33 ≤ ltr b ∧ ltr b ≤ 323 ∧ ltr b ≠ 127 := by
  have := ltr_cases b
  omega
theorem byt_cases (p : Int) : (p = 323 → byt p = 173) ∧ (289 ≤ p ∧ p ≤ 322 → byt p = p - 162) ∧ (256 ≤ p ∧ p ≤ 288 → byt p = p - 256) ∧ (33 ≤ p ∧ p ≤ 126 ∨ 161 ≤ p ∧ p ≤ 172 ∨ 174 ≤ p ∧ p ≤ 255 → byt p = p) ∧ (p < 33 ∨ 126 < p ∧ p < 161 ∨ p = 173 ∨ 323 < p → byt p = -1) := by
  unfold byt
  refine ⟨fun h => by rw [if_pos h], fun h => by rw [if_neg (by omega), if_pos h], fun h => by rw [if_neg (by omega), if_neg (by omega), if_pos h], fun h => by rw [if_neg (by omega), if_neg (by omega), if_neg (by omega), if_pos h], fun h => by rw [if_neg (by omega), if_neg (by omega), if_neg (by omega), if_neg (by omega)]⟩
theorem byt_bd (p : Int) : -1 ≤ byt p ∧ byt p ≤ 255 := by
  have := byt_cases p
  omega
theorem byt_ltr {b : Int} (h0 : 0 ≤ b) (h1 : b ≤ 255) : byt (ltr b) = b := by
  have := ltr_cases b
  have := byt_cases (ltr b)
  omega
theorem ltr_byt {p : Int} (h : 0 ≤ byt p) : ltr (byt p) = p := by
  have := byt_cases p
  have := ltr_cases (byt p)
  omega
theorem byt_of {p i : Int} (h0 : 0 ≤ i) (h1 : i ≤ 255) (h : ltr i = p) : byt p = i := by rw [← h]; exact byt_ltr h0 h1
theorem ltr_pt {b : Int} (h0 : 0 ≤ b) (h1 : b ≤ 255) : Utf.isPt (ltr b) = true := by
  have := ltr_bd h0 h1
  rw [Utf.isPt_iff]
  omega
theorem ltr_enc {b : Int} (h0 : 0 ≤ b) (h1 : b ≤ 255) : 1 ≤ Utf.encN (ltr b) ∧ Utf.encN (ltr b) ≤ 2 := by
  have := ltr_bd h0 h1
  by_cases h : ltr b < 128
  · rw [(Utf.enc_1 h).1]; omega
  · rw [(Utf.enc_2 (by omega) (by omega)).1]; omega
theorem encF_pt_bd {b : Int} (h0 : 0 ≤ b) (h1 : b ≤ 255) (i : Nat) : 0 ≤ Utf.encF (ltr b) i ∧ Utf.encF (ltr b) i ≤ 255 := by
  have := ltr_bd h0 h1
  exact Utf.encF_bd _ (by omega) (by omega) i

/-- How many bytes the writing of the first n bytes has. -/
def wrN (f : Nat → Int) : Nat → Nat
  | 0 => 0
  | n + 1 => wrN f n + Utf.encN (ltr (f n))
/-- The writing of the first n bytes. -/
def wrF (f : Nat → Int) : Nat → Nat → Int
  | 0 => fun _ => 0
  | n + 1 => cat (wrF f n) (wrN f n) (Utf.encF (ltr (f n)))

theorem wrF_bd {f : Nat → Int} (hf : ∀ i, 0 ≤ f i ∧ f i ≤ 255) : ∀ n i, 0 ≤ wrF f n i ∧ wrF f n i ≤ 255
  | 0, _ => ⟨Int.le_refl _, by show (0 : Int) ≤ 255; omega⟩
  | n + 1, i => cat_bd (wrF_bd hf n) (encF_pt_bd (hf n).1 (hf n).2) i
theorem wrN_bd {f : Nat → Int} (hf : ∀ i, 0 ≤ f i ∧ f i ≤ 255) : ∀ n, n ≤ wrN f n ∧ wrN f n ≤ 2 * n
  | 0 => ⟨Nat.le_refl _, Nat.le_refl _⟩
  | n + 1 => by
    have := wrN_bd hf n
    have := ltr_enc (hf n).1 (hf n).2
    simp only [wrN]
    omega
theorem wrN_lt {f : Nat → Int} (hf : ∀ i, 0 ≤ f i ∧ f i ≤ 255) (k : Nat) : ∀ d, wrN f k + d ≤ wrN f (k + d)
  | 0 => Nat.le_refl _
  | d + 1 => by
    have := wrN_lt hf k d
    have := ltr_enc (hf (k + d)).1 (hf (k + d)).2
    show wrN f k + (d + 1) ≤ wrN f (k + d) + Utf.encN (ltr (f (k + d)))
    omega
theorem wrN_mono {f : Nat → Int} (hf : ∀ i, 0 ≤ f i ∧ f i ≤ 255) {k l : Nat} (h : k ≤ l) : wrN f k ≤ wrN f l := by
  have := wrN_lt hf k (l - k)
  rw [show k + (l - k) = l by omega] at this
  omega
theorem wrN_smono {f : Nat → Int} (hf : ∀ i, 0 ≤ f i ∧ f i ≤ 255) {k l : Nat} (h : k < l) : wrN f k < wrN f l := by
  have := wrN_lt hf k (l - k)
  rw [show k + (l - k) = l by omega] at this
  omega
theorem wrN_inv {f : Nat → Int} (hf : ∀ i, 0 ≤ f i ∧ f i ≤ 255) {k l : Nat} (h : wrN f k < wrN f l) : k < l := by
  by_cases hk : k < l
  · exact hk
  · have := wrN_mono hf (show l ≤ k by omega); omega
theorem wrN_inj {f : Nat → Int} (hf : ∀ i, 0 ≤ f i ∧ f i ≤ 255) {k l : Nat} (h : wrN f k = wrN f l) : k = l := by
  by_cases a : k < l
  · have := wrN_smono hf a; omega
  · by_cases b : l < k
    · have := wrN_smono hf b; omega
    · omega
/-- The writing of fewer bytes is the first part. -/
theorem wrF_first {f : Nat → Int} (hf : ∀ i, 0 ≤ f i ∧ f i ≤ 255) (k i : Nat) (h : i < wrN f k) : ∀ d, wrF f (k + d) i = wrF f k i
  | 0 => rfl
  | d + 1 => by
    have := wrN_mono hf (show k ≤ k + d by omega)
    show cat (wrF f (k + d)) (wrN f (k + d)) _ i = _
    rw [cat_lt (by omega)]
    exact wrF_first hf k i h d
/-- The k-th letter stands at its place. -/
theorem wrF_at {f : Nat → Int} (hf : ∀ i, 0 ≤ f i ∧ f i ≤ 255) {k n : Nat} (h : k < n) (i : Nat) (hi : i < Utf.encN (ltr (f k))) : wrF f n (wrN f k + i) = Utf.encF (ltr (f k)) i := by
  have e := wrF_first hf (k + 1) (wrN f k + i) (by show _ < wrN f k + Utf.encN (ltr (f k)); omega) (n - (k + 1))
  rw [show k + 1 + (n - (k + 1)) = n by omega] at e
  rw [e]
  show cat (wrF f k) (wrN f k) _ _ = _
  rw [cat_ge (by omega), show wrN f k + i - wrN f k = i by omega]
theorem wrN_congr {f g : Nat → Int} : ∀ {n : Nat}, (∀ i, i < n → f i = g i) → wrN f n = wrN g n
  | 0, _ => rfl
  | n + 1, h => by
    show wrN f n + _ = wrN g n + _
    rw [wrN_congr (fun i hi => h i (by omega)), h n (by omega)]
theorem wrF_congr {f g : Nat → Int} : ∀ {n : Nat}, (∀ i, i < n → f i = g i) → wrF f n = wrF g n
  | 0, _ => rfl
  | n + 1, h => by
    show cat (wrF f n) (wrN f n) _ = cat (wrF g n) (wrN g n) _
    rw [wrF_congr (fun i hi => h i (by omega)), wrN_congr (fun i hi => h i (by omega)), h n (by omega)]
/-- The writing of two rows. -/
theorem wrN_cat (f g : Nat → Int) (n : Nat) : ∀ m, wrN (cat f n g) (n + m) = wrN f n + wrN g m
  | 0 => wrN_congr (fun i hi => cat_lt hi)
  | m + 1 => by
    show wrN (cat f n g) (n + m) + Utf.encN (ltr (cat f n g (n + m))) = wrN f n + (wrN g m + Utf.encN (ltr (g m)))
    rw [wrN_cat f g n m, cat_ge (by omega), show n + m - n = m by omega]
    omega
theorem wrF_cat (f g : Nat → Int) (n : Nat) : ∀ m i, i < wrN f n + wrN g m → wrF (cat f n g) (n + m) i = cat (wrF f n) (wrN f n) (wrF g m) i
  | 0, i, h => by
    have h' : i < wrN f n := h
    rw [cat_lt h']
    show wrF (cat f n g) n i = _
    rw [wrF_congr (fun i hi => cat_lt hi)]
  | m + 1, i, h => by
    have h' : i < wrN f n + (wrN g m + Utf.encN (ltr (g m))) := h
    show cat (wrF (cat f n g) (n + m)) (wrN (cat f n g) (n + m)) (Utf.encF (ltr (cat f n g (n + m)))) i = cat (wrF f n) (wrN f n) (cat (wrF g m) (wrN g m) (Utf.encF (ltr (g m)))) i
    rw [wrN_cat, cat_ge (f := f) (g := g) (show n ≤ n + m by omega), show n + m - n = m by omega]
    by_cases a : i < wrN f n + wrN g m
    · rw [cat_lt a, wrF_cat f g n m i a]
      by_cases b : i < wrN f n
      · rw [cat_lt b, cat_lt b]
      · rw [cat_ge (by omega), cat_ge (by omega), cat_lt (by omega)]
    · rw [cat_ge (by omega), cat_ge (by omega), cat_ge (by omega)]
      congr 1
      omega
/-- No blank, no line feed, no 127. -/
theorem encF_clean {b : Int} (h0 : 0 ≤ b) (h1 : b ≤ 255) (i : Nat) (hi : i < Utf.encN (ltr b)) : 32 < Utf.encF (ltr b) i ∧ Utf.encF (ltr b) i ≠ 127 := by
  have hb := ltr_bd h0 h1
  by_cases h : ltr b < 128
  · have e := Utf.enc_1 h
    rw [e.1] at hi
    obtain rfl : i = 0 := by omega
    have e0 : Utf.encF (ltr b) 0 = ltr b := by unfold Utf.encF; rw [e.2]; rfl
    omega
  · have e := Utf.enc_2 (p := ltr b) (by omega) (by omega)
    rw [e.1] at hi
    have e0 : Utf.encF (ltr b) 0 = 192 + ltr b / 64 := by unfold Utf.encF; rw [e.2]; rfl
    have e1 : Utf.encF (ltr b) 1 = 128 + ltr b % 64 := by unfold Utf.encF; rw [e.2]; rfl
    obtain rfl | rfl : i = 0 ∨ i = 1 := by omega
    · omega
    · omega
theorem wrF_clean {f : Nat → Int} (hf : ∀ i, 0 ≤ f i ∧ f i ≤ 255) : ∀ n i, i < wrN f n → 32 < wrF f n i ∧ wrF f n i ≠ 127
  | 0, i, h => absurd h (by show ¬ i < 0; omega)
  | n + 1, i, h => by
    have h' : i < wrN f n + Utf.encN (ltr (f n)) := h
    show 32 < cat (wrF f n) (wrN f n) (Utf.encF (ltr (f n))) i ∧ cat (wrF f n) (wrN f n) (Utf.encF (ltr (f n))) i ≠ 127
    by_cases a : i < wrN f n
    · rw [cat_lt a]; exact wrF_clean hf n i a
    · rw [cat_ge (by omega)]; exact encF_clean (hf n).1 (hf n).2 _ (by omega)

/-- From k on. -/
def sh (f : Nat → Int) (k : Nat) : Nat → Int := fun i => f (k + i)
/-- The first pos bytes of f are the writing of k bytes g. -/
structure WR (f : Nat → Int) (pos : Nat) (g : Nat → Int) (k : Nat) : Prop where
  bd : ∀ i, 0 ≤ g i ∧ g i ≤ 255
  size : wrN g k = pos
  get : ∀ i, i < pos → wrF g k i = f i
theorem WR.zero (f : Nat → Int) : WR f 0 (fun _ => 0) 0 := ⟨fun _ => ⟨Int.le_refl _, by show (0 : Int) ≤ 255; omega⟩, rfl, fun i h => absurd h (by omega)⟩
/-- One letter less. -/
theorem WR.less {f g : Nat → Int} {pos k l : Nat} (h : WR f pos g k) (hl : l ≤ k) : WR f (wrN g l) g l := by
  refine ⟨h.bd, rfl, fun i hi => ?_⟩
  have := wrN_mono h.bd hl
  rw [← h.get i (by rw [← h.size]; omega), show k = l + (k - l) by omega]
  exact (wrF_first h.bd l i hi _).symm
/-- What is decoded at a letter's place. -/
theorem WR.dec {f g : Nat → Int} {m k l n : Nat} {fin : Bool} (h : WR f m g k) (hl : l < k) (hn : m ≤ n) : Utf.dec (sh f (wrN g l)) (n - wrN g l) fin = (ltr (g l), (Utf.encN (ltr (g l)) : Int), false) := by
  have h1 := wrN_mono h.bd (show l + 1 ≤ k by omega)
  rw [h.size] at h1
  have h2 : wrN g l + Utf.encN (ltr (g l)) ≤ m := h1
  refine Utf.enc_dec (ltr_pt (h.bd l).1 (h.bd l).2) (by omega) (fun i hi => ?_)
  rw [← wrF_at h.bd hl i hi]
  exact (h.get _ (by omega)).symm
/-- Two readings of one text agree as far as both go. -/
theorem WR.agree {f g g' : Nat → Int} {m k : Nat} (h : WR f m g k) : ∀ (l pos : Nat), WR f pos g' l → pos ≤ m → l ≤ k ∧ (∀ i, i < l → g' i = g i) ∧ pos = wrN g l
  | 0, pos, h', _ => ⟨Nat.zero_le _, fun i hi => absurd hi (by omega), h'.size.symm⟩
  | l + 1, pos, h', hp => by
    have hs : wrN g' l + Utf.encN (ltr (g' l)) = pos := h'.size
    obtain ⟨a, b, c⟩ := h.agree l (wrN g' l) (h'.less (by omega)) (by omega)
    have he := ltr_enc (h'.bd l).1 (h'.bd l).2
    have hlt : l < k := wrN_inv h.bd (by rw [← c, h.size]; omega)
    have d1 := h.dec (n := m) (fin := true) hlt (Nat.le_refl _)
    have d2 := h'.dec (n := m) (fin := true) (Nat.lt_succ_self l) hp
    rw [c] at d2
    rw [d1] at d2
    have e1 : ltr (g l) = ltr (g' l) := congrArg Prod.fst d2
    have e2 : g l = g' l := by rw [← byt_ltr (h.bd l).1 (h.bd l).2, e1, byt_ltr (h'.bd l).1 (h'.bd l).2]
    refine ⟨hlt, fun i hi => ?_, ?_⟩
    · by_cases e : i = l
      · subst e; exact e2.symm
      · exact b i (by omega)
    · show pos = wrN g l + Utf.encN (ltr (g l))
      rw [← hs, c, e1]
/-- Ahead of a reading's end a letter stands. -/
theorem WR.letter {f g g' : Nat → Int} {m n k l pos : Nat} (h : WR f m g k) (h' : WR f pos g' l) (hp : pos < m) (hn : m ≤ n) : 0 ≤ byt (Utf.dec (sh f pos) (n - pos) true).1 := by
  obtain ⟨a, b, rfl⟩ := h.agree l pos h' (by omega)
  have hlt : l < k := wrN_inv h.bd (by rw [h.size]; exact hp)
  rw [h.dec hlt hn]
  show 0 ≤ byt (ltr (g l))
  rw [byt_ltr (h.bd l).1 (h.bd l).2]
  exact (h.bd l).1
/-- Two whole readings are one. -/
theorem WR.same {f g g' : Nat → Int} {m k l : Nat} (h : WR f m g k) (h' : WR f m g' l) : l = k ∧ ∀ i, i < k → g' i = g i := by
  obtain ⟨a, b, c⟩ := h.agree l m h' (Nat.le_refl _)
  have : l = k := wrN_inj h.bd (by rw [h.size, ← c])
  subst this
  exact ⟨rfl, b⟩

/-- The text isn't a writing: up to p it is, and no letter stands there. -/
def Bad (f : Nat → Int) (n p : Nat) : Prop := p < n ∧ (∃ g k, WR f p g k) ∧ byt (Utf.dec (sh f p) (n - p) true).1 < 0
theorem bad_one {f : Nat → Int} {n p q : Nat} (hp : Bad f n p) (hq : Bad f n q) : p = q := by
  obtain ⟨p1, ⟨g, k, hg⟩, p3⟩ := hp
  obtain ⟨q1, ⟨g', k', hg'⟩, q3⟩ := hq
  by_cases a : p < q
  · have := hg'.letter hg a (Nat.le_of_lt q1); omega
  · by_cases b : q < p
    · have := hg.letter hg' b (Nat.le_of_lt p1); omega
    · omega
theorem bad_not {f g : Nat → Int} {n k p : Nat} (h : WR f n g k) (hp : Bad f n p) : False := by
  obtain ⟨p1, ⟨g', k', hg'⟩, p3⟩ := hp
  have := h.letter hg' p1 (Nat.le_refl _)
  omega

/-- What is decoded as a code point is just its bytes. -/
theorem dec_fit {f : Nat → Int} {m : Nat} {p k : Int} {mo : Bool} (hz : ∀ i, 0 ≤ f i ∧ f i ≤ 255) (hm : 0 < m) (h : Utf.dec f m true = (p, k, mo)) (hp : 0 ≤ p) : ∃ n : Nat, n ≤ m ∧ k = n ∧ Utf.Fit f n p := by
  have hlb := Utf.long_bd (f 0)
  obtain ⟨n, hn⟩ := Int.eq_ofNat_of_zero_le hlb.1
  have no : Utf.dec f m true = (-1, 1, false) → False := fun e => by
    rw [e] at h
    have : (-1 : Int) = p := congrArg Prod.fst h
    omega
  by_cases h0 : 0 < n
  · by_cases hnm : n ≤ m
    · obtain ⟨q, hq⟩ : ∃ q, Utf.BR f n q := by
        by_cases ht : ∀ j, 1 ≤ j → j < n → Utf.tail f j
        · exact ⟨_, Or.inr ⟨ht, rfl⟩⟩
        · refine ⟨-1, Or.inl ⟨?_, rfl⟩⟩
          simp only [Classical.not_forall] at ht
          obtain ⟨j, a, b, c⟩ := ht
          exact ⟨j, a, b, c⟩
      by_cases hF : Utf.Fit f n q
      · have hpt := (Utf.isPt_iff q).1 hF.1
        have o := (Utf.whole_dec (fin := true) hz h0 hnm hn ⟨q, hq, Or.inl ⟨hF, rfl⟩⟩).1 hpt.1
        rw [o] at h
        have e1 : q = p := congrArg Prod.fst h
        have e2 : (n : Int) = k := congrArg (fun x => x.2.1) h
        subst e1
        exact ⟨n, hnm, e2.symm, hF⟩
      · exact (no ((Utf.whole_dec (fin := true) hz h0 hnm hn ⟨q, hq, Or.inr ⟨hF, rfl⟩⟩).2 (by omega))).elim
    · exact (no (Utf.dec_short_true (by omega) (by omega) hn)).elim
  · obtain rfl : n = 0 := by omega
    exact (no (Utf.dec_zero (by omega) (Utf.long_zero hn))).elim
theorem byt_neg {p : Int} (h : 0 ≤ byt p) : 0 ≤ p := by
  have := byt_cases p
  omega
/-- One letter more. -/
theorem WR.more {f g : Nat → Int} {n pos k : Nat} {p c : Int} {mo : Bool} (hf : ∀ i, 0 ≤ f i ∧ f i ≤ 255) (h : WR f pos g k) (hp : pos < n) (hd : Utf.dec (sh f pos) (n - pos) true = (p, c, mo)) (hb : 0 ≤ byt p) :
    ∃ d : Nat, c = d ∧ 1 ≤ d ∧ pos + d ≤ n ∧ WR f (pos + d) (cat g k fun _ => byt p) (k + 1) := by
  obtain ⟨d, h1, h2, h3⟩ := dec_fit (fun i => hf _) (by omega) hd (byt_neg hb)
  obtain ⟨f1, f2, f3⟩ := h3
  have e := Utf.enc_ok f1
  have bb := byt_bd p
  have ek : cat g k (fun _ => byt p) k = byt p := cat_ge (Nat.le_refl _)
  have en : wrN (cat g k fun _ => byt p) k = pos := by rw [wrN_congr (g := g) (fun i hi => cat_lt hi)]; exact h.size
  refine ⟨d, h2, by omega, by omega, cat_bd h.bd (fun _ => ⟨hb, by omega⟩), ?_, fun i hi => ?_⟩
  · show wrN _ k + Utf.encN (ltr (cat g k (fun _ => byt p) k)) = _
    rw [en, ek, ltr_byt hb, f2]
  · show cat (wrF (cat g k fun _ => byt p) k) (wrN (cat g k fun _ => byt p) k) (Utf.encF (ltr (cat g k (fun _ => byt p) k))) i = f i
    rw [en, ek, ltr_byt hb, wrF_congr (g := g) (fun i hi => cat_lt hi)]
    by_cases a : i < pos
    · rw [cat_lt a]; exact h.get i a
    · rw [cat_ge (by omega), f3 _ (by omega)]
      show f (pos + (i - pos)) = f i
      rw [show pos + (i - pos) = i by omega]
end Go.Proofs.Ytaejoleijmihhaa.Le
