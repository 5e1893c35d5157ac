/-
  Several texts in one: Cvb, LeMath, LeW1, LeW2, LeR.
-/
import Derived.Test.YtecbmonbeogdjaaDoorLotA
import Derived.Lib.ConvBytes
import Derived.Test.YtecbmonbeogdjaaDoorLotU
import Derived.Test.YtecbmonbeogdjaaDoorChecked
import Derived.Deep.LoopGhost
import Derived.Test.YtecbmonbeogdjaaDoorLotV
/-
  A string's bytes as a slice of the call's own ('[]byte(s)'). No program is named here.
-/
namespace Go.Proofs.YtecbmonbeogdjaaDoor
open Go.RowKit

theorem conv_bytes {P : Program} (w : World) (src dst e : TypeId) (hs : P.underlying src = some .string) (hd : P.underlying dst = some (.slice e)) (he : P.underlying e = some (.int .u8)) {s : ByteArray} {n : Nat} {f : Nat → Int} (hS : St s n f) (hn : n ≤ maxLen) :
    ∃ c w', (convert src dst (.string s)).run P w = .ok (.slice (some ⟨w.heap.size, 0, none⟩) n c) w' ∧ Sl w' (some ⟨w.heap.size, 0, none⟩) n c f ∧ Below w.heap.size w w' ∧ w'.heap.size = w.heap.size + 1 := by
  have hz := hS.size
  refine ⟨grownCap w s.size 0 e, Lib.bytesWorld w e s, ?_, ?_, ?_, Lib.bytesWorld_size w e s⟩
  · rw [← hz]; exact Lib.run_convert_string_bytes w src dst e s hs hd he
  · refine ⟨by rw [← hz]; exact grownCap_ge w _ 0 e, grownCap_le_maxLen w _ 0 e (by rw [hz]; exact hn), hS.bd, fun h => absurd h (by simp), fun _ => ⟨_, _, rfl, by rw [Lib.bytesWorld_size]; omega, fun i hi => ?_⟩⟩
    rw [Nat.zero_add, Lib.bytesWorld_cell w e s i (by omega)]
    have := hS.get i (by omega)
    rw [← this]
    have hi' : i < s.data.size := by have : s.size = s.data.size := rfl; omega
    rw [List.getD_eq_getElem?_getD, Array.getElem?_toList, Array.getElem?_eq_getElem hi']
    rfl
  · refine ⟨rfl, rfl, rfl, by rw [Lib.bytesWorld_size]; omega, fun k hk => Lib.bytesWorld_at_old w e s k hk⟩
end Go.Proofs.YtecbmonbeogdjaaDoor

/-
  Letters of bytes, their writing, and what is read of one: plain mathematics.
-/
namespace Go.Proofs.YtecbmonbeogdjaaDoor.Le

/-- A byte's letter. -/
def ltr (b : Int) : Int := if b = 173 then 323 else if 127 ≤ b ∧ b ≤ 160 then b + 162 else if b ≤ 32 then b + 256 else b
/-- The byte of a letter, or -1. -/
def byt (p : Int) : Int := if p = 323 then 173 else if 289 ≤ p ∧ p ≤ 322 then p - 162 else if 256 ≤ p ∧ p ≤ 288 then p - 256 else if 33 ≤ p ∧ p ≤ 126 ∨ 161 ≤ p ∧ p ≤ 172 ∨ 174 ≤ p ∧ p ≤ 255 then p else -1

theorem ltr_cases (b : Int) : (b = 173 → ltr b = 323) ∧ (127 ≤ b ∧ b ≤ 160 → ltr b = b + 162) ∧ (b ≤ 32 → ltr b = b + 256) ∧ (32 < b ∧ b < 127 ∨ 160 < b ∧ b ≠ 173 → ltr b = b) := by
  unfold ltr
  refine ⟨fun h => by rw [if_pos h], fun h => by rw [if_neg (by omega), if_pos h], fun h => by rw [if_neg (by omega), if_neg (by omega), if_pos h], fun h => by rw [if_neg (by omega), if_neg (by omega), if_neg (by omega)]⟩
theorem ltr_bd {b : Int} (h0 : 0 ≤ b) (h1 : b ≤ 255) : 33 ≤ ltr b ∧ ltr b ≤ 323 ∧ ltr b ≠ 127 := by
  have := ltr_cases b
  omega
theorem byt_cases (p : Int) : (p = 323 → byt p = 173) ∧ (289 ≤ p ∧ p ≤ 322 → byt p = p - 162) ∧ (256 ≤ p ∧ p ≤ 288 → byt p = p - 256) ∧ (33 ≤ p ∧ p ≤ 126 ∨ 161 ≤ p ∧ p ≤ 172 ∨ 174 ≤ p ∧ p ≤ 255 → byt p = p) ∧ (p < 33 ∨ 126 < p ∧ p < 161 ∨ p = 173 ∨ 323 < p → byt p = -1) := by
  unfold byt
  refine ⟨fun h => by rw [if_pos h], fun h => by rw [if_neg (by omega), if_pos h], fun h => by rw [if_neg (by omega), if_neg (by omega), if_pos h], fun h => by rw [if_neg (by omega), if_neg (by omega), if_neg (by omega), if_pos h], fun h => by rw [if_neg (by omega), if_neg (by omega), if_neg (by omega), if_neg (by omega)]⟩
theorem byt_bd (p : Int) : -1 ≤ byt p ∧ byt p ≤ 255 := by
  have := byt_cases p
  omega
theorem byt_ltr {b : Int} (h0 : 0 ≤ b) (h1 : b ≤ 255) : byt (ltr b) = b := by
  have := ltr_cases b
  have := byt_cases (ltr b)
  omega
theorem ltr_byt {p : Int} (h : 0 ≤ byt p) : ltr (byt p) = p := by
  have := byt_cases p
  have := ltr_cases (byt p)
  omega
theorem byt_of {p i : Int} (h0 : 0 ≤ i) (h1 : i ≤ 255) (h : ltr i = p) : byt p = i := by rw [← h]; exact byt_ltr h0 h1
theorem ltr_pt {b : Int} (h0 : 0 ≤ b) (h1 : b ≤ 255) : Utf.isPt (ltr b) = true := by
  have := ltr_bd h0 h1
  rw [Utf.isPt_iff]
  omega
theorem ltr_enc {b : Int} (h0 : 0 ≤ b) (h1 : b ≤ 255) : 1 ≤ Utf.encN (ltr b) ∧ Utf.encN (ltr b) ≤ 2 := by
  have := ltr_bd h0 h1
  by_cases h : ltr b < 128
  · rw [(Utf.enc_1 h).1]; omega
  · rw [(Utf.enc_2 (by omega) (by omega)).1]; omega
theorem encF_pt_bd {b : Int} (h0 : 0 ≤ b) (h1 : b ≤ 255) (i : Nat) : 0 ≤ Utf.encF (ltr b) i ∧ Utf.encF (ltr b) i ≤ 255 := by
  have := ltr_bd h0 h1
  exact Utf.encF_bd _ (by omega) (by omega) i

/-- How many bytes the writing of the first n bytes has. -/
def wrN (f : Nat → Int) : Nat → Nat
  | 0 => 0
  | n + 1 => wrN f n + Utf.encN (ltr (f n))
/-- The writing of the first n bytes. -/
def wrF (f : Nat → Int) : Nat → Nat → Int
  | 0 => fun _ => 0
  | n + 1 => cat (wrF f n) (wrN f n) (Utf.encF (ltr (f n)))

theorem wrF_bd {f : Nat → Int} (hf : ∀ i, 0 ≤ f i ∧ f i ≤ 255) : ∀ n i, 0 ≤ wrF f n i ∧ wrF f n i ≤ 255
  | 0, _ => ⟨Int.le_refl _, by show (0 : Int) ≤ 255; omega⟩
  | n + 1, i => cat_bd (wrF_bd hf n) (encF_pt_bd (hf n).1 (hf n).2) i
theorem wrN_bd {f : Nat → Int} (hf : ∀ i, 0 ≤ f i ∧ f i ≤ 255) : ∀ n, n ≤ wrN f n ∧ wrN f n ≤ 2 * n
  | 0 => ⟨Nat.le_refl _, Nat.le_refl _⟩
  | n + 1 => by
    have := wrN_bd hf n
    have := ltr_enc (hf n).1 (hf n).2
    simp only [wrN]
    omega
theorem wrN_lt {f : Nat → Int} (hf : ∀ i, 0 ≤ f i ∧ f i ≤ 255) (k : Nat) : ∀ d, wrN f k + d ≤ wrN f (k + d)
  | 0 => Nat.le_refl _
  | d + 1 => by
    have := wrN_lt hf k d
    have := ltr_enc (hf (k + d)).1 (hf (k + d)).2
    show wrN f k + (d + 1) ≤ wrN f (k + d) + Utf.encN (ltr (f (k + d)))
    omega
theorem wrN_mono {f : Nat → Int} (hf : ∀ i, 0 ≤ f i ∧ f i ≤ 255) {k l : Nat} (h : k ≤ l) : wrN f k ≤ wrN f l := by
  have := wrN_lt hf k (l - k)
  rw [show k + (l - k) = l by omega] at this
  omega
theorem wrN_smono {f : Nat → Int} (hf : ∀ i, 0 ≤ f i ∧ f i ≤ 255) {k l : Nat} (h : k < l) : wrN f k < wrN f l := by
  have := wrN_lt hf k (l - k)
  rw [show k + (l - k) = l by omega] at this
  omega
theorem wrN_inv {f : Nat → Int} (hf : ∀ i, 0 ≤ f i ∧ f i ≤ 255) {k l : Nat} (h : wrN f k < wrN f l) : k < l := by
  by_cases hk : k < l
  · exact hk
  · have := wrN_mono hf (show l ≤ k by omega); omega
theorem wrN_inj {f : Nat → Int} (hf : ∀ i, 0 ≤ f i ∧ f i ≤ 255) {k l : Nat} (h : wrN f k = wrN f l) : k = l := by
  by_cases a : k < l
  · have := wrN_smono hf a; omega
  · by_cases b : l < k
    · have := wrN_smono hf b; omega
    · omega
/-- The writing of fewer bytes is the first part. -/
theorem wrF_first {f : Nat → Int} (hf : ∀ i, 0 ≤ f i ∧ f i ≤ 255) (k i : Nat) (h : i < wrN f k) : ∀ d, wrF f (k + d) i = wrF f k i
  | 0 => rfl
  | d + 1 => by
    have := wrN_mono hf (show k ≤ k + d by omega)
    show cat (wrF f (k + d)) (wrN f (k + d)) _ i = _
    rw [cat_lt (by omega)]
    exact wrF_first hf k i h d
/-- The k-th letter stands at its place. -/
theorem wrF_at {f : Nat → Int} (hf : ∀ i, 0 ≤ f i ∧ f i ≤ 255) {k n : Nat} (h : k < n) (i : Nat) (hi : i < Utf.encN (ltr (f k))) : wrF f n (wrN f k + i) = Utf.encF (ltr (f k)) i := by
  have e := wrF_first hf (k + 1) (wrN f k + i) (by show _ < wrN f k + Utf.encN (ltr (f k)); omega) (n - (k + 1))
  rw [show k + 1 + (n - (k + 1)) = n by omega] at e
  rw [e]
  show cat (wrF f k) (wrN f k) _ _ = _
  rw [cat_ge (by omega), show wrN f k + i - wrN f k = i by omega]
theorem wrN_congr {f g : Nat → Int} : ∀ {n : Nat}, (∀ i, i < n → f i = g i) → wrN f n = wrN g n
  | 0, _ => rfl
  | n + 1, h => by
    show wrN f n + _ = wrN g n + _
    rw [wrN_congr (fun i hi => h i (by omega)), h n (by omega)]
theorem wrF_congr {f g : Nat → Int} : ∀ {n : Nat}, (∀ i, i < n → f i = g i) → wrF f n = wrF g n
  | 0, _ => rfl
  | n + 1, h => by
    show cat (wrF f n) (wrN f n) _ = cat (wrF g n) (wrN g n) _
    rw [wrF_congr (fun i hi => h i (by omega)), wrN_congr (fun i hi => h i (by omega)), h n (by omega)]
/-- The writing of two rows. -/
theorem wrN_cat (f g : Nat → Int) (n : Nat) : ∀ m, wrN (cat f n g) (n + m) = wrN f n + wrN g m
  | 0 => wrN_congr (fun i hi => cat_lt hi)
  | m + 1 => by
    show wrN (cat f n g) (n + m) + Utf.encN (ltr (cat f n g (n + m))) = wrN f n + (wrN g m + Utf.encN (ltr (g m)))
    rw [wrN_cat f g n m, cat_ge (by omega), show n + m - n = m by omega]
    omega
theorem wrF_cat (f g : Nat → Int) (n : Nat) : ∀ m i, i < wrN f n + wrN g m → wrF (cat f n g) (n + m) i = cat (wrF f n) (wrN f n) (wrF g m) i
  | 0, i, h => by
    have h' : i < wrN f n := h
    rw [cat_lt h']
    show wrF (cat f n g) n i = _
    rw [wrF_congr (fun i hi => cat_lt hi)]
  | m + 1, i, h => by
    have h' : i < wrN f n + (wrN g m + Utf.encN (ltr (g m))) := h
    show cat (wrF (cat f n g) (n + m)) (wrN (cat f n g) (n + m)) (Utf.encF (ltr (cat f n g (n + m)))) i = cat (wrF f n) (wrN f n) (cat (wrF g m) (wrN g m) (Utf.encF (ltr (g m)))) i
    rw [wrN_cat, cat_ge (f := f) (g := g) (show n ≤ n + m by omega), show n + m - n = m by omega]
    by_cases a : i < wrN f n + wrN g m
    · rw [cat_lt a, wrF_cat f g n m i a]
      by_cases b : i < wrN f n
      · rw [cat_lt b, cat_lt b]
      · rw [cat_ge (by omega), cat_ge (by omega), cat_lt (by omega)]
    · rw [cat_ge (by omega), cat_ge (by omega), cat_ge (by omega)]
      congr 1
      omega
/-- No blank, no line feed, no 127. -/
theorem encF_clean {b : Int} (h0 : 0 ≤ b) (h1 : b ≤ 255) (i : Nat) (hi : i < Utf.encN (ltr b)) : 32 < Utf.encF (ltr b) i ∧ Utf.encF (ltr b) i ≠ 127 := by
  have hb := ltr_bd h0 h1
  by_cases h : ltr b < 128
  · have e := Utf.enc_1 h
    rw [e.1] at hi
    obtain rfl : i = 0 := by omega
    have e0 : Utf.encF (ltr b) 0 = ltr b := by unfold Utf.encF; rw [e.2]; rfl
    omega
  · have e := Utf.enc_2 (p := ltr b) (by omega) (by omega)
    rw [e.1] at hi
    have e0 : Utf.encF (ltr b) 0 = 192 + ltr b / 64 := by unfold Utf.encF; rw [e.2]; rfl
    have e1 : Utf.encF (ltr b) 1 = 128 + ltr b % 64 := by unfold Utf.encF; rw [e.2]; rfl
    obtain rfl | rfl : i = 0 ∨ i = 1 := by omega
    · omega
    · omega
theorem wrF_clean {f : Nat → Int} (hf : ∀ i, 0 ≤ f i ∧ f i ≤ 255) : ∀ n i, i < wrN f n → 32 < wrF f n i ∧ wrF f n i ≠ 127
  | 0, i, h => absurd h (by show ¬ i < 0; omega)
  | n + 1, i, h => by
    have h' : i < wrN f n + Utf.encN (ltr (f n)) := h
    show 32 < cat (wrF f n) (wrN f n) (Utf.encF (ltr (f n))) i ∧ cat (wrF f n) (wrN f n) (Utf.encF (ltr (f n))) i ≠ 127
    by_cases a : i < wrN f n
    · rw [cat_lt a]; exact wrF_clean hf n i a
    · rw [cat_ge (by omega)]; exact encF_clean (hf n).1 (hf n).2 _ (by omega)

/-- From k on. -/
def sh (f : Nat → Int) (k : Nat) : Nat → Int := fun i => f (k + i)
/-- The first pos bytes of f are the writing of k bytes g. -/
structure WR (f : Nat → Int) (pos : Nat) (g : Nat → Int) (k : Nat) : Prop where
  bd : ∀ i, 0 ≤ g i ∧ g i ≤ 255
  size : wrN g k = pos
  get : ∀ i, i < pos → wrF g k i = f i
theorem WR.zero (f : Nat → Int) : WR f 0 (fun _ => 0) 0 := ⟨fun _ => ⟨Int.le_refl _, by show (0 : Int) ≤ 255; omega⟩, rfl, fun i h => absurd h (by omega)⟩
/-- One letter less. -/
theorem WR.less {f g : Nat → Int} {pos k l : Nat} (h : WR f pos g k) (hl : l ≤ k) : WR f (wrN g l) g l := by
  refine ⟨h.bd, rfl, fun i hi => ?_⟩
  have := wrN_mono h.bd hl
  rw [← h.get i (by rw [← h.size]; omega), show k = l + (k - l) by omega]
  exact (wrF_first h.bd l i hi _).symm
/-- What is decoded at a letter's place. -/
theorem WR.dec {f g : Nat → Int} {m k l n : Nat} {fin : Bool} (h : WR f m g k) (hl : l < k) (hn : m ≤ n) : Utf.dec (sh f (wrN g l)) (n - wrN g l) fin = (ltr (g l), (Utf.encN (ltr (g l)) : Int), false) := by
  have h1 := wrN_mono h.bd (show l + 1 ≤ k by omega)
  rw [h.size] at h1
  have h2 : wrN g l + Utf.encN (ltr (g l)) ≤ m := h1
  refine Utf.enc_dec (ltr_pt (h.bd l).1 (h.bd l).2) (by omega) (fun i hi => ?_)
  rw [← wrF_at h.bd hl i hi]
  exact (h.get _ (by omega)).symm
/-- Two readings of one text agree as far as both go. -/
theorem WR.agree {f g g' : Nat → Int} {m k : Nat} (h : WR f m g k) : ∀ (l pos : Nat), WR f pos g' l → pos ≤ m → l ≤ k ∧ (∀ i, i < l → g' i = g i) ∧ pos = wrN g l
  | 0, pos, h', _ => ⟨Nat.zero_le _, fun i hi => absurd hi (by omega), h'.size.symm⟩
  | l + 1, pos, h', hp => by
    have hs : wrN g' l + Utf.encN (ltr (g' l)) = pos := h'.size
    obtain ⟨a, b, c⟩ := h.agree l (wrN g' l) (h'.less (by omega)) (by omega)
    have he := ltr_enc (h'.bd l).1 (h'.bd l).2
    have hlt : l < k := wrN_inv h.bd (by rw [← c, h.size]; omega)
    have d1 := h.dec (n := m) (fin := true) hlt (Nat.le_refl _)
    have d2 := h'.dec (n := m) (fin := true) (Nat.lt_succ_self l) hp
    rw [c] at d2
    rw [d1] at d2
    have e1 : ltr (g l) = ltr (g' l) := congrArg Prod.fst d2
    have e2 : g l = g' l := by rw [← byt_ltr (h.bd l).1 (h.bd l).2, e1, byt_ltr (h'.bd l).1 (h'.bd l).2]
    refine ⟨hlt, fun i hi => ?_, ?_⟩
    · by_cases e : i = l
      · subst e; exact e2.symm
      · exact b i (by omega)
    · show pos = wrN g l + Utf.encN (ltr (g l))
      rw [← hs, c, e1]
/-- Ahead of a reading's end a letter stands. -/
theorem WR.letter {f g g' : Nat → Int} {m n k l pos : Nat} (h : WR f m g k) (h' : WR f pos g' l) (hp : pos < m) (hn : m ≤ n) : 0 ≤ byt (Utf.dec (sh f pos) (n - pos) true).1 := by
  obtain ⟨a, b, rfl⟩ := h.agree l pos h' (by omega)
  have hlt : l < k := wrN_inv h.bd (by rw [h.size]; exact hp)
  rw [h.dec hlt hn]
  show 0 ≤ byt (ltr (g l))
  rw [byt_ltr (h.bd l).1 (h.bd l).2]
  exact (h.bd l).1
/-- Two whole readings are one. -/
theorem WR.same {f g g' : Nat → Int} {m k l : Nat} (h : WR f m g k) (h' : WR f m g' l) : l = k ∧ ∀ i, i < k → g' i = g i := by
  obtain ⟨a, b, c⟩ := h.agree l m h' (Nat.le_refl _)
  have : l = k := wrN_inj h.bd (by rw [h.size, ← c])
  subst this
  exact ⟨rfl, b⟩

/-- The text isn't a writing: up to p it is, and no letter stands there. -/
def Bad (f : Nat → Int) (n p : Nat) : Prop := p < n ∧ (∃ g k, WR f p g k) ∧ byt (Utf.dec (sh f p) (n - p) true).1 < 0
theorem bad_one {f : Nat → Int} {n p q : Nat} (hp : Bad f n p) (hq : Bad f n q) : p = q := by
  obtain ⟨p1, ⟨g, k, hg⟩, p3⟩ := hp
  obtain ⟨q1, ⟨g', k', hg'⟩, q3⟩ := hq
  by_cases a : p < q
  · have := hg'.letter hg a (Nat.le_of_lt q1); omega
  · by_cases b : q < p
    · have := hg.letter hg' b (Nat.le_of_lt p1); omega
    · omega
theorem bad_not {f g : Nat → Int} {n k p : Nat} (h : WR f n g k) (hp : Bad f n p) : False := by
  obtain ⟨p1, ⟨g', k', hg'⟩, p3⟩ := hp
  have := h.letter hg' p1 (Nat.le_refl _)
  omega

/-- What is decoded as a code point is just its bytes. -/
theorem dec_fit {f : Nat → Int} {m : Nat} {p k : Int} {mo : Bool} (hz : ∀ i, 0 ≤ f i ∧ f i ≤ 255) (hm : 0 < m) (h : Utf.dec f m true = (p, k, mo)) (hp : 0 ≤ p) : ∃ n : Nat, n ≤ m ∧ k = n ∧ Utf.Fit f n p := by
  have hlb := Utf.long_bd (f 0)
  obtain ⟨n, hn⟩ := Int.eq_ofNat_of_zero_le hlb.1
  have no : Utf.dec f m true = (-1, 1, false) → False := fun e => by
    rw [e] at h
    have : (-1 : Int) = p := congrArg Prod.fst h
    omega
  by_cases h0 : 0 < n
  · by_cases hnm : n ≤ m
    · obtain ⟨q, hq⟩ : ∃ q, Utf.BR f n q := by
        by_cases ht : ∀ j, 1 ≤ j → j < n → Utf.tail f j
        · exact ⟨_, Or.inr ⟨ht, rfl⟩⟩
        · refine ⟨-1, Or.inl ⟨?_, rfl⟩⟩
          simp only [Classical.not_forall] at ht
          obtain ⟨j, a, b, c⟩ := ht
          exact ⟨j, a, b, c⟩
      by_cases hF : Utf.Fit f n q
      · have hpt := (Utf.isPt_iff q).1 hF.1
        have o := (Utf.whole_dec (fin := true) hz h0 hnm hn ⟨q, hq, Or.inl ⟨hF, rfl⟩⟩).1 hpt.1
        rw [o] at h
        have e1 : q = p := congrArg Prod.fst h
        have e2 : (n : Int) = k := congrArg (fun x => x.2.1) h
        subst e1
        exact ⟨n, hnm, e2.symm, hF⟩
      · exact (no ((Utf.whole_dec (fin := true) hz h0 hnm hn ⟨q, hq, Or.inr ⟨hF, rfl⟩⟩).2 (by omega))).elim
    · exact (no (Utf.dec_short_true (by omega) (by omega) hn)).elim
  · obtain rfl : n = 0 := by omega
    exact (no (Utf.dec_zero (by omega) (Utf.long_zero hn))).elim
theorem byt_neg {p : Int} (h : 0 ≤ byt p) : 0 ≤ p := by
  have := byt_cases p
  omega
/-- One letter more. -/
theorem WR.more {f g : Nat → Int} {n pos k : Nat} {p c : Int} {mo : Bool} (hf : ∀ i, 0 ≤ f i ∧ f i ≤ 255) (h : WR f pos g k) (hp : pos < n) (hd : Utf.dec (sh f pos) (n - pos) true = (p, c, mo)) (hb : 0 ≤ byt p) :
    ∃ d : Nat, c = d ∧ 1 ≤ d ∧ pos + d ≤ n ∧ WR f (pos + d) (cat g k fun _ => byt p) (k + 1) := by
  obtain ⟨d, h1, h2, h3⟩ := dec_fit (fun i => hf _) (by omega) hd (byt_neg hb)
  obtain ⟨f1, f2, f3⟩ := h3
  have e := Utf.enc_ok f1
  have bb := byt_bd p
  have ek : cat g k (fun _ => byt p) k = byt p := cat_ge (Nat.le_refl _)
  have en : wrN (cat g k fun _ => byt p) k = pos := by rw [wrN_congr (g := g) (fun i hi => cat_lt hi)]; exact h.size
  refine ⟨d, h2, by omega, by omega, cat_bd h.bd (fun _ => ⟨hb, by omega⟩), ?_, fun i hi => ?_⟩
  · show wrN _ k + Utf.encN (ltr (cat g k (fun _ => byt p) k)) = _
    rw [en, ek, ltr_byt hb, f2]
  · show cat (wrF (cat g k fun _ => byt p) k) (wrN (cat g k fun _ => byt p) k) (Utf.encF (ltr (cat g k (fun _ => byt p) k))) i = f i
    rw [en, ek, ltr_byt hb, wrF_congr (g := g) (fun i hi => cat_lt hi)]
    by_cases a : i < pos
    · rw [cat_lt a]; exact h.get i a
    · rw [cat_ge (by omega), f3 _ (by omega)]
      show f (pos + (i - pos)) = f i
      rw [show pos + (i - pos) = i by omega]
end Go.Proofs.YtecbmonbeogdjaaDoor.Le

/-
  Walks of letter.Of, letter.Byte, and of the reference's plain, Of, Byte.
-/
namespace Go.Proofs.YtecbmonbeogdjaaDoor
open Go.RowKit
set_option linter.unusedVariables false

theorem lof_calls (b : Int) (h0 : 0 ≤ b) (h1 : b ≤ 255) (w : World) :
    Calls Tryd.prog 38 #[.int .u8 b] w fun e w' => e = .returned (.int .i64 (Le.ltr b)) ∧ w' = w := by
  have HC := hid (Le.ltr_cases b)
  by_cases a : b = 173
  · subst a
    go_enter Tryd.func38, Tryd.ntmps38
    go_wp2
    go_ret
    exact ⟨rfl, rfl⟩
  have a' : (b == 173) = false := by simpa using a
  by_cases c : 127 ≤ b ∧ b ≤ 160
  · obtain ⟨c1, c2⟩ := c
    go_enter Tryd.func38, Tryd.ntmps38
    go_wp2
    go_ret
    exact ⟨ret_int (by have := HC.out.2.1 ⟨c1, c2⟩; omega), rfl⟩
  by_cases d : b ≤ 32
  · have c1 : ¬ 127 ≤ b := by omega
    clear c
    go_enter Tryd.func38, Tryd.ntmps38
    go_wp2
    go_ret
    exact ⟨ret_int (by have := HC.out.2.2.1 d; omega), rfl⟩
  · by_cases c1 : 127 ≤ b
    · have c2 : ¬ b ≤ 160 := by omega
      clear c
      go_enter Tryd.func38, Tryd.ntmps38
      go_wp2
      go_ret
      exact ⟨ret_int (by have := HC.out.2.2.2; omega), rfl⟩
    · clear c
      go_enter Tryd.func38, Tryd.ntmps38
      go_wp2
      go_ret
      exact ⟨ret_int (by have := HC.out.2.2.2; omega), rfl⟩

/-- What Byte answers. -/
def B2 (x : Int) : Value := .tuple #[.int .u8 (if 0 ≤ x then x else 0), .bool (decide (0 ≤ x))]
theorem B2_yes {x y : Int} (h : 0 ≤ y) (e : x = y) : Ending.returned (.tuple #[.int .u8 y, .bool true]) = .returned (B2 x) := by
  subst e; unfold B2; rw [if_pos h]; simp [h]
theorem B2_no {x : Int} (h : x < 0) : Ending.returned (.tuple #[.int .u8 0, .bool false]) = .returned (B2 x) := by
  have h' : ¬ 0 ≤ x := by omega
  unfold B2; rw [if_neg h']; simp [h']

theorem l173 : Le.ltr 173 = 323 := by decide
theorem l127 : Le.ltr 127 = 289 := by decide
theorem l160 : Le.ltr 160 = 322 := by decide
theorem l0 : Le.ltr 0 = 256 := by decide
theorem l32 : Le.ltr 32 = 288 := by decide

set_option maxHeartbeats 800000 in
theorem lbyte_calls (p : Int) (w : World) :
    Calls Tryd.prog 64 #[.int .i64 p] w fun e w' => e = .returned (B2 (Le.byt p)) ∧ w' = w := by
  have HC := hid (Le.byt_cases p)
  by_cases a : p = 323
  · subst a
    go_enter Tryd.func64, Tryd.ntmps64
    go_wp2_with fail
    refine (lof_calls 173 (by omega) (by omega) _).mono ?_
    rintro e w ⟨rfl, rfl⟩
    rw [l173]
    go_wp2_with fail
    refine (lof_calls 173 (by omega) (by omega) _).mono ?_
    rintro e w ⟨rfl, rfl⟩
    rw [l173]
    go_wp2_with fail
    go_ret2
    exact ⟨B2_yes (by omega) (by decide), rfl⟩
  have a' : (p == 323) = false := by simpa using a
  have a'' : (p = 323) = False := by simpa using a
  by_cases c : 289 ≤ p ∧ p ≤ 322
  · obtain ⟨c1, c2⟩ := c
    have e1 := HC.out.2.1 ⟨c1, c2⟩
    have HL := hid (show Le.ltr (p + 94 - 256) = p by rw [show p + 94 - 256 = Le.byt p by omega]; exact Le.ltr_byt (by omega))
    have E1 := hid e1
    clear e1
    go_enter Tryd.func64, Tryd.ntmps64
    go_wp2_with fail
    refine (lof_calls 173 (by omega) (by omega) _).mono ?_
    rintro e w ⟨rfl, rfl⟩
    rw [l173]
    go_wp2_with fail
    refine (lof_calls 127 (by omega) (by omega) _).mono ?_
    rintro e w ⟨rfl, rfl⟩
    rw [l127]
    go_wp2_with fail
    refine (lof_calls 160 (by omega) (by omega) _).mono ?_
    rintro e w ⟨rfl, rfl⟩
    rw [l160]
    go_wp2_with fail
    refine (lof_calls _ (by omega) (by omega) _).mono ?_
    rintro e w ⟨rfl, rfl⟩
    rw [HL.out]
    go_wp2_with fail
    go_ret2
    exact ⟨B2_yes (by omega) (by have := E1.out; omega), rfl⟩
  by_cases d : 256 ≤ p ∧ p ≤ 288
  · obtain ⟨d1, d2⟩ := d
    have c1 : ¬ 289 ≤ p := by omega
    have e1 := HC.out.2.2.1 ⟨d1, d2⟩
    have HL := hid (show Le.ltr (p - 256) = p by rw [show p - 256 = Le.byt p by omega]; exact Le.ltr_byt (by omega))
    have E1 := hid e1
    clear e1 c
    go_enter Tryd.func64, Tryd.ntmps64
    go_wp2_with fail
    refine (lof_calls 173 (by omega) (by omega) _).mono ?_
    rintro e w ⟨rfl, rfl⟩
    rw [l173]
    go_wp2_with fail
    refine (lof_calls 127 (by omega) (by omega) _).mono ?_
    rintro e w ⟨rfl, rfl⟩
    rw [l127]
    go_wp2_with fail
    refine (lof_calls 0 (by omega) (by omega) _).mono ?_
    rintro e w ⟨rfl, rfl⟩
    rw [l0]
    go_wp2_with fail
    refine (lof_calls 32 (by omega) (by omega) _).mono ?_
    rintro e w ⟨rfl, rfl⟩
    rw [l32]
    go_wp2_with fail
    refine (lof_calls _ (by omega) (by omega) _).mono ?_
    rintro e w ⟨rfl, rfl⟩
    rw [HL.out]
    go_wp2_with fail
    go_ret2
    exact ⟨B2_yes (by omega) (by have := E1.out; omega), rfl⟩
  by_cases lo : p < 0
  · have c1 : ¬ 289 ≤ p := by omega
    have d1 : ¬ 256 ≤ p := by omega
    have E1 := hid (HC.out.2.2.2.2 (by omega))
    clear c d
    go_enter Tryd.func64, Tryd.ntmps64
    go_wp2_with fail
    refine (lof_calls 173 (by omega) (by omega) _).mono ?_
    rintro e w ⟨rfl, rfl⟩
    rw [l173]
    go_wp2_with fail
    refine (lof_calls 127 (by omega) (by omega) _).mono ?_
    rintro e w ⟨rfl, rfl⟩
    rw [l127]
    go_wp2_with fail
    refine (lof_calls 0 (by omega) (by omega) _).mono ?_
    rintro e w ⟨rfl, rfl⟩
    rw [l0]
    go_wp2_with fail
    go_ret2
    exact ⟨B2_no (by have := E1.out; omega), rfl⟩
  by_cases hi : 255 < p
  · have hi' : 323 < p := by omega
    have c1 : 289 ≤ p := by omega
    have c2 : ¬ p ≤ 322 := by omega
    have d1 : 256 ≤ p := by omega
    have d2 : ¬ p ≤ 288 := by omega
    have E1 := hid (HC.out.2.2.2.2 (by omega))
    clear c d
    go_enter Tryd.func64, Tryd.ntmps64
    go_wp2_with fail
    refine (lof_calls 173 (by omega) (by omega) _).mono ?_
    rintro e w ⟨rfl, rfl⟩
    rw [l173]
    go_wp2_with fail
    refine (lof_calls 127 (by omega) (by omega) _).mono ?_
    rintro e w ⟨rfl, rfl⟩
    rw [l127]
    go_wp2_with fail
    refine (lof_calls 160 (by omega) (by omega) _).mono ?_
    rintro e w ⟨rfl, rfl⟩
    rw [l160]
    go_wp2_with fail
    refine (lof_calls 0 (by omega) (by omega) _).mono ?_
    rintro e w ⟨rfl, rfl⟩
    rw [l0]
    go_wp2_with fail
    refine (lof_calls 32 (by omega) (by omega) _).mono ?_
    rintro e w ⟨rfl, rfl⟩
    rw [l32]
    go_wp2_with fail
    go_ret2
    exact ⟨B2_no (by have := E1.out; omega), rfl⟩
  have c1 : ¬ 289 ≤ p := by omega
  have d1 : ¬ 256 ≤ p := by omega
  clear c d
  obtain ⟨q, hq⟩ : ∃ q, Le.ltr p = q := ⟨_, rfl⟩
  have HQ := hid hq
  clear hq
  by_cases hk : q = p
  · subst hk
    have E1 := hid (Le.byt_of (p := q) (i := q) (by omega) (by omega) HQ.out)
    go_enter Tryd.func64, Tryd.ntmps64
    go_wp2_with fail
    refine (lof_calls 173 (by omega) (by omega) _).mono ?_
    rintro e w ⟨rfl, rfl⟩
    rw [l173]
    go_wp2_with fail
    refine (lof_calls 127 (by omega) (by omega) _).mono ?_
    rintro e w ⟨rfl, rfl⟩
    rw [l127]
    go_wp2_with fail
    refine (lof_calls 0 (by omega) (by omega) _).mono ?_
    rintro e w ⟨rfl, rfl⟩
    rw [l0]
    go_wp2_with fail
    refine (lof_calls _ (by omega) (by omega) _).mono ?_
    rintro e w ⟨rfl, rfl⟩
    rw [HQ.out]
    go_wp2_with fail
    go_ret2
    exact ⟨B2_yes (by omega) (by have := E1.out; omega), rfl⟩
  · have E1 := hid (show Le.byt p = -1 from HC.out.2.2.2.2 (by have := Le.ltr_cases p; have := HQ.out; omega))
    have hk1 : (q == p) = false := by simpa using hk
    have hk2 : (q != p) = true := by simpa using hk
    go_enter Tryd.func64, Tryd.ntmps64
    go_wp2_with fail
    refine (lof_calls 173 (by omega) (by omega) _).mono ?_
    rintro e w ⟨rfl, rfl⟩
    rw [l173]
    go_wp2_with fail
    refine (lof_calls 127 (by omega) (by omega) _).mono ?_
    rintro e w ⟨rfl, rfl⟩
    rw [l127]
    go_wp2_with fail
    refine (lof_calls 0 (by omega) (by omega) _).mono ?_
    rintro e w ⟨rfl, rfl⟩
    rw [l0]
    go_wp2_with fail
    refine (lof_calls _ (by omega) (by omega) _).mono ?_
    rintro e w ⟨rfl, rfl⟩
    rw [HQ.out]
    go_wp2_with fail
    go_ret2
    exact ⟨B2_no (by have := E1.out; omega), rfl⟩

namespace Le
/-- Is a byte's letter its own number? -/
def plain (n : Int) : Bool := decide (33 ≤ n ∧ n ≤ 126 ∨ 161 ≤ n ∧ n ≤ 172 ∨ 174 ≤ n ∧ n ≤ 255)
/-- How many of the first i numbers aren't plain. -/
def cnt : Nat → Nat
  | 0 => 0
  | i + 1 => if plain i then cnt i else cnt i + 1
theorem cnt_le : ∀ i, cnt i ≤ i
  | 0 => Nat.le_refl _
  | i + 1 => by have := cnt_le i; simp only [cnt]; split <;> omega
theorem ltr_plain {b : Int} (h1 : b ≤ 255) (h : plain b = true) : ltr b = b := by
  have := ltr_cases b
  unfold plain at h
  have := of_decide_eq_true h
  omega
theorem cnt_ltr : ∀ b : Nat, b < 256 → plain b = false → 256 + (cnt b : Int) = ltr b := by decide +kernel
end Le

set_option maxHeartbeats 800000 in
theorem plain_calls (n : Int) (w : World) :
    Calls Tryd.prog 40 #[.int .i64 n] w fun e w' => e = .returned (.bool (Le.plain n)) ∧ w' = w := by
  go_enter Tryd.func40, Tryd.ntmps40
  go_wp2
  all_goals (go_ret; refine ⟨ret_bool ?_, rfl⟩; unfold Le.plain; first | exact (decide_eq_true (by omega)).symm | exact (decide_eq_false (by omega)).symm | (rw [Bool.eq_iff_iff]; simp; omega))

set_option maxHeartbeats 800000 in
theorem rof_calls (b : Nat) (h1 : b ≤ 255) (w : World) :
    Calls Tryd.prog 31 #[.int .u8 b] w fun e w' => e = .returned (.int .i64 (Le.ltr b)) ∧ w' = w := by
  have h0 : (0 : Int) ≤ b := by omega
  have h1' : (b : Int) ≤ 255 := by omega
  go_enter Tryd.func31, Tryd.ntmps31
  go_wp2_with fail
  refine (plain_calls _ _).mono ?_
  rintro e w ⟨rfl, rfl⟩
  cases hp : Le.plain b
  · have HP := hid hp
    clear hp
    go_wp2_with fail
    go_loopg [3, 4] b (fun r nv iv wr => ∃ i : Nat, i ≤ b ∧ r = b - i ∧ nv = .int .i64 (256 + (Le.cnt i : Nat)) ∧ iv = .int .i64 i ∧ w = wr)
    case atStart => exact ⟨0, by omega, rfl, rfl, rfl, rfl⟩
    case round =>
      obtain ⟨i, hi, rfl, rfl, rfl, rfl⟩ := hrel
      by_cases hlt : i < b
      · have h2 : (i : Int) < b := by omega
        have hc := Le.cnt_le i
        go_wp2_with fail
        refine (plain_calls _ _).mono ?_
        rintro e w ⟨rfl, rfl⟩
        cases hq : Le.plain i
        · have HQ := hid hq
          clear hq
          go_wp2_with fail
          go_roundg (b - (i + 1))
          case measure => omega
          case rel => exact ⟨i + 1, by omega, rfl, by simp only [Le.cnt, HQ.out]; go_num, by go_num, rfl⟩
        · have HQ := hid hq
          clear hq
          go_wp2_with fail
          go_roundg (b - (i + 1))
          case measure => omega
          case rel => exact ⟨i + 1, by omega, rfl, by simp only [Le.cnt, HQ.out]; rfl, by go_num, rfl⟩
      · obtain rfl : i = b := by omega
        have h2 : ¬ (i : Int) < i := by omega
        go_wp2_with fail
        go_ret
        exact ⟨ret_int (Le.cnt_ltr i (by omega) HP.out), rfl⟩
  · have HP := hid (Le.ltr_plain h1' hp)
    clear hp
    go_wp2_with fail
    go_ret
    exact ⟨ret_int HP.out.symm, rfl⟩

end Go.Proofs.YtecbmonbeogdjaaDoor

/-
  Walks of letter.Write and letter.Read.
-/
namespace Go.Proofs.YtecbmonbeogdjaaDoor
open Go.RowKit
set_option linter.unusedVariables false

set_option maxRecDepth 100000 in
set_option maxHeartbeats 1600000 in
theorem lwrite_calls (ao : Option Addr) (n cap : Nat) (f : Nat → Int) (w : World) (hn : n ≤ 100000) (hsl : Sl w ao n cap f) :
    Calls Tryd.prog 28 #[.slice ao n cap] w fun e w' => e = .returned (.string (str (Le.wrF f n) (Le.wrN f n))) ∧ Below w.heap.size w w' := by
  obtain ⟨i0, hi0, hz0, hz1, hz2⟩ := info_parts Tryd.info8
  have SL := hid hsl
  clear hsl
  go_enter Tryd.func28, Tryd.ntmps28
  go_wp2_with fail
  go_loopg [3, 10] n (fun r v iv wr => ∃ k : Nat, k ≤ n ∧ r = n - k ∧ iv = .int .i64 k ∧ Hid (wr.ownsRow w.heap.size 5 1 v (Le.wrN f k) (vals (Le.wrF f k) (Le.wrN f k))) ∧ Hid (Below w.heap.size w wr))
  case atStart => exact ⟨0, by omega, by omega, rfl, hid (World.ownsRow_nil _ _ _ _), hid (Below.refl _ _)⟩
  case round =>
    obtain ⟨k, hk, rfl, rfl, HO, HB⟩ := hrel
    by_cases hlt : k < n
    · have h1 : (k : Int) < n := by omega
      have h0 : (0 : Int) ≤ k := by omega
      obtain ⟨b, off, rfl, hbw, hcell⟩ := (SL.out.below HB.out).at' (by omega)
      have hck := hcell k hlt
      have hb := SL.out.bd k
      have hpt := Le.ltr_pt hb.1 hb.2
      have hen := Le.ltr_enc hb.1 hb.2
      have hwn := Le.wrN_bd SL.out.bd k
      have sz := HB.out.size
      clear hcell
      go_wp2_with fail
      refine (lof_calls _ hb.1 hb.2 _).mono ?_
      rintro e wr ⟨rfl, rfl⟩
      go_wp2_with fail
      refine (encode_yes _ _ hpt).mono ?_
      rintro e w3 ⟨rfl, hw3⟩
      have S3 := hid (encW_sl wr 5 hpt)
      rw [← hw3] at S3
      have B3' := encW_below wr 5 (Utf.encL (Le.ltr (f k)))
      rw [← hw3] at B3'
      have O3 := hid (own_below HO.out B3')
      have B3 := hid (HB.out.trans (B3'.mono sz))
      have sz3 := B3.out.size
      clear hw3 B3' HO HB hck
      go_wp2_with (at_builtin; refine wpList_append_sl rfl _ _ 28 rfl w.heap.size 5 i0 Tryd.underlying28 hi0 hz0 hz1 hz2 u3 (Le.wrN f k) (Le.wrF f k) rfl O3.out (some ⟨wr.heap.size, 0, none⟩) (Utf.encN (Le.ltr (f k))) (Utf.encN (Le.ltr (f k))) _ rfl S3.out (by omega) sz3 ?_)
      intro v4 w4 ho4 hg4
      have B4 := hid (B3.out.grown hg4 sz3 (fun j hj => (O3.out.lt j hj).1))
      have O4 : Hid (w4.ownsRow w.heap.size 5 1 v4 (Le.wrN f (k + 1)) (vals (Le.wrF f (k + 1)) (Le.wrN f (k + 1)))) := ho4
      clear ho4 hg4
      go_wp2_with fail
      go_roundg (n - (k + 1))
      case measure => omega
      case rel => exact ⟨k + 1, by omega, rfl, by go_num, O4, B4⟩
    · obtain rfl : k = n := by omega
      have h1 : ¬ (k : Int) < k := by omega
      obtain ⟨a5, c5, rfl, hs5⟩ := Sl.own HO.out (Le.wrF_bd SL.out.bd k)
      have cv := run_convert_sl (P := Tryd.prog) wr 28 5 9 Tryd.underlying28 Tryd.underlying5 Tryd.underlying9 hs5
      clear HO hs5
      go_wp2_with fail
      go_ret
      exact ⟨rfl, HB.out⟩

theorem B2_y {x : Int} (h : 0 ≤ x) : B2 x = .tuple #[.int .u8 x, .bool true] := by unfold B2; rw [if_pos h]; simp [h]
theorem B2_n {x : Int} (h : x < 0) : B2 x = .tuple #[.int .u8 0, .bool false] := by
  have h' : ¬ 0 ≤ x := by omega
  unfold B2; rw [if_neg h']; simp [h']

/-- What Read answers. -/
def RdOut (f : Nat → Int) (n : Nat) (e : Ending) (w' : World) : Prop :=
  (∃ g k, Le.WR f n g k ∧ ∃ a c, e = .returned (.tuple #[.slice a k c, .int .i64 0, .bool true]) ∧ Sl w' a k c g) ∨
  (∃ p, Le.Bad f n p ∧ e = .returned (.tuple #[.slice none 0 0, .int .i64 (p : Nat), .bool false]))

set_option maxRecDepth 100000 in
set_option maxHeartbeats 1600000 in
theorem lread_calls (s : ByteArray) (n : Nat) (f : Nat → Int) (w : World) (hn : n ≤ 100000) (hS : St s n f) :
    Calls Tryd.prog 57 #[.string s] w fun e w' => RdOut f n e w' ∧ Below w.heap.size w w' := by
  obtain ⟨i0, hi0, hz0, hz1, hz2⟩ := info_parts Tryd.info8
  obtain ⟨cap, w1, cv, hsl, hb1, hw1⟩ := conv_bytes (P := Tryd.prog) w 9 28 5 Tryd.underlying9 Tryd.underlying28 Tryd.underlying5 hS (by unfold maxLen; omega)
  have HBD := hid hS.bd
  have SL := hid hsl
  have B1 := hid hb1
  have HW := hid hw1
  have hcap := hsl.le
  have hmx := hsl.mx
  unfold maxLen at hmx
  clear hsl hb1 hw1 hS
  go_enter Tryd.func57, Tryd.ntmps57
  go_wp2_with fail
  go_loopg [5, 7] n (fun r v iv wr => ∃ (pos k : Nat) (g : Nat → Int), pos ≤ n ∧ k ≤ pos ∧ r = n - pos ∧ iv = .int .i64 pos ∧ Hid (Le.WR f pos g k) ∧ Hid (wr.ownsRow w1.heap.size 5 1 v k (vals g k)) ∧ Hid (Below w1.heap.size w1 wr))
  case atStart => exact ⟨0, 0, _, by omega, by omega, by omega, rfl, hid (Le.WR.zero f), hid (World.ownsRow_nil _ _ _ _), hid (Below.refl _ _)⟩
  case round =>
    obtain ⟨pos, k, g, hpos, hkp, rfl, rfl, HWR, HO, HB⟩ := hrel
    by_cases hlt : pos < n
    · have h1 : (pos : Int) < n := by omega
      have h0 : (0 : Int) ≤ pos := by omega
      have h2 : (pos : Int) ≤ n := by omega
      have h3 : (pos : Int) ≤ cap := by omega
      have h4 : (n : Int) ≤ cap := by omega
      have hne : ¬ cap = pos := by omega
      have S1 : Hid (Sl wr (some ⟨w.heap.size, pos, none⟩) (n - pos) (cap - pos) (Le.sh f pos)) := by
        have := (SL.out.cut pos hlt).below HB.out
        rw [Nat.zero_add] at this
        exact this
      obtain ⟨⟨p, c, mo⟩, hd⟩ : ∃ d, Utf.dec (Le.sh f pos) (n - pos) true = d := ⟨_, rfl⟩
      have HD := hid hd
      clear hd
      go_wp2_with fail
      refine (decode_calls _ _ _ _ true _ S1.out).mono ?_
      rintro e wr ⟨rfl, rfl⟩
      rw [HD.out]
      unfold D3
      go_wp2_with fail
      refine (lbyte_calls _ _).mono ?_
      rintro e wr ⟨rfl, rfl⟩
      by_cases hy : 0 ≤ Le.byt p
      · rw [B2_y hy]
        obtain ⟨d, hcd, hd1, hd2, hmore⟩ := HWR.out.more HBD.out hlt HD.out hy
        subst hcd
        have bb := Le.byt_bd p
        obtain ⟨x, hx⟩ : ∃ x, Le.byt p = x := ⟨_, rfl⟩
        rw [hx] at hmore bb hy ⊢
        have HM := hid hmore
        have sz := HB.out.size
        have SX := hid (Sl.one (w := wr) (x0 := x) 5 (fun _ => x) (fun _ => ⟨hy, bb.2⟩) rfl)
        clear hmore hx S1
        go_wp2_with (at_builtin; refine wpList_append_sl rfl _ _ 28 rfl w1.heap.size 5 i0 Tryd.underlying28 hi0 hz0 hz1 hz2 u5 k g rfl (HO.out.alloc _) (some ⟨wr.heap.size, 0, none⟩) 1 1 _ rfl SX.out (by omega) (by simp; omega) ?_)
        intro v4 w4 ho4 hg4
        have B4 := hid ((HB.out.alloc sz _).grown hg4 (by simp; omega) (fun j hj => (HO.out.lt j hj).1))
        have O4 := hid ho4
        clear ho4 hg4
        go_wp2_with fail
        go_roundg (n - (pos + d))
        case measure => omega
        case rel => exact ⟨pos + d, k + 1, _, by omega, by omega, rfl, by go_num, HM, O4, B4⟩
      · rw [B2_n (by omega)]
        have HN := hid (show Le.byt p < 0 by omega)
        clear hy S1
        go_wp2_with fail
        go_ret3
        exact ⟨Or.inr ⟨pos, ⟨hlt, ⟨g, k, HWR.out⟩, by rw [HD.out]; exact HN.out⟩, rfl⟩, B1.out.trans (HB.out.mono B1.out.size)⟩
    · obtain rfl : pos = n := by omega
      have h1 : ¬ (pos : Int) < pos := by omega
      obtain ⟨a5, c5, rfl, hs5⟩ := Sl.own HO.out HWR.out.bd
      have HS5 := hid hs5
      clear HO hs5
      go_wp2_with fail
      go_ret3
      exact ⟨Or.inl ⟨g, k, HWR.out, a5, c5, rfl, HS5.out⟩, B1.out.trans (HB.out.mono B1.out.size)⟩
end Go.Proofs.YtecbmonbeogdjaaDoor

/-
  Walks of the reference's Write and Read.
-/
namespace Go.Proofs.YtecbmonbeogdjaaDoor
open Go.RowKit
set_option linter.unusedVariables false

theorem rofI_calls (b : Int) (h0 : 0 ≤ b) (h1 : b ≤ 255) (w : World) :
    Calls Tryd.prog 31 #[.int .u8 b] w fun e w' => e = .returned (.int .i64 (Le.ltr b)) ∧ w' = w := by
  obtain ⟨n, rfl⟩ := Int.eq_ofNat_of_zero_le h0
  exact rof_calls n (by omega) w

set_option maxRecDepth 100000 in
set_option maxHeartbeats 1600000 in
theorem rwrite_calls (s : ByteArray) (n : Nat) (f : Nat → Int) (w : World) (hn : n ≤ 100000) (hS : St s n f) :
    Calls Tryd.prog 19 #[.string s] w fun e w' => e = .returned (.string (str (Le.wrF f n) (Le.wrN f n))) ∧ Below w.heap.size w w' := by
  obtain ⟨hsz, hget, hbd⟩ := hS
  have HBD := hid hbd
  clear hbd
  go_enter Tryd.func19, Tryd.ntmps19
  go_wp2_with fail
  go_loopg [3, 4] n (fun r o iv wr => ∃ k : Nat, k ≤ n ∧ r = n - k ∧ iv = .int .i64 k ∧ o = .string (str (Le.wrF f k) (Le.wrN f k)) ∧ Hid (Below w.heap.size w wr))
  case atStart => exact ⟨0, by omega, by omega, rfl, rfl, hid (Below.refl _ _)⟩
  case round =>
    obtain ⟨k, hk, rfl, rfl, rfl, HB⟩ := hrel
    by_cases hlt : k < n
    · have h1 : (k : Int) < n := by omega
      have h0 : (0 : Int) ≤ k := by omega
      have hb := HBD.out k
      have hpt := Le.ltr_pt hb.1 hb.2
      have hen := Le.ltr_enc hb.1 hb.2
      have hwn := Le.wrN_bd HBD.out k
      obtain ⟨X, hX⟩ : ∃ X, str (Le.wrF f k) (Le.wrN f k) = X := ⟨_, rfl⟩
      obtain ⟨Y, hY⟩ : ∃ Y, str (Utf.encF (Le.ltr (f k))) (Utf.encN (Le.ltr (f k))) = Y := ⟨_, rfl⟩
      have hSX : St X (Le.wrN f k) (Le.wrF f k) := by rw [← hX]; exact St.of (Le.wrF_bd HBD.out _) _
      have hSY : St Y (Utf.encN (Le.ltr (f k))) (Utf.encF (Le.ltr (f k))) := by rw [← hY]; exact St.of (Le.encF_pt_bd hb.1 hb.2) _
      have HE : Hid (X ++ Y = str (Le.wrF f (k + 1)) (Le.wrN f (k + 1))) := (hSX.append hSY).eq_str
      have hcat : ¬ 9223372036854775807 < X.size + Y.size := by rw [hSX.size, hSY.size]; omega
      rw [hX]
      have HY := hid hY
      clear hX hY hSX hSY
      go_wp2_with fail
      refine (rofI_calls _ hb.1 hb.2 _).mono ?_
      rintro e wr ⟨rfl, rfl⟩
      go_wp2_with fail
      refine (refEncode_yes _ _ hpt).mono ?_
      rintro e w3 ⟨rfl, hb3⟩
      rw [HY.out]
      have B3 := hid (HB.out.trans (hb3.mono HB.out.size))
      clear hb3 HB
      go_wp2_with fail
      go_roundg (n - (k + 1))
      case measure => omega
      case rel => exact ⟨k + 1, by omega, rfl, by go_num, by rw [HE.out], B3⟩
    · obtain rfl : k = n := by omega
      have h1 : ¬ (k : Int) < k := by omega
      go_wp2_with fail
      go_ret
      exact ⟨rfl, HB.out⟩

/-- What the reference's Read answers. -/
def RrOut (f : Nat → Int) (n : Nat) (e : Ending) : Prop :=
  (∃ g k, Le.WR f n g k ∧ e = .returned (.tuple #[.string (str g k), .int .i64 0, .bool true])) ∨
  (∃ p, Le.Bad f n p ∧ e = .returned (.tuple #[.string ⟨#[]⟩, .int .i64 (p : Nat), .bool false]))

theorem Sl.one' {w : World} {x0 : Int} (t : TypeId) (g : Nat → Int) (hg : ∀ i, 0 ≤ g i ∧ g i ≤ 255) (h0 : x0 = g 0) (b : Nat) (hb : b = w.heap.size) : Sl (w.alloc (.cells #[.int .u8 x0] t)) (some ⟨b, 0, none⟩) 1 1 g := by
  subst hb
  exact Sl.one t g hg h0

end Go.Proofs.YtecbmonbeogdjaaDoor
