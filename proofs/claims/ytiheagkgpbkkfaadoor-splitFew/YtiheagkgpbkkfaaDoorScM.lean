/-
  What the program's own way of cutting asks of bytes, in plain mathematics: how many bytes points have, what needs more at the end, endings told by bytes.
-/
import Derived.Test.YtiheagkgpbkkfaaDoorLotR
namespace Go.Proofs.YtiheagkgpbkkfaaDoor
set_option linter.unusedVariables false
namespace Sc
open Utf
open Pr (it)
/-- How many bytes the first k points have. -/
def sm (f : Nat → Int) (n k : Nat) : Nat := ((lens f n).take k).sum
theorem sm_zero (f : Nat → Int) (n : Nat) : sm f n 0 = 0 := by simp [sm]
theorem lens_len (f : Nat → Int) (n : Nat) : (lens f n).length = (pts f n).length := (lens_is n n f (Nat.le_refl _)).1
theorem sm_lt {f : Nat → Int} {n j k : Nat} (h : j < k) (hk : k ≤ (pts f n).length) : sm f n j < sm f n k :=
  sum_lt (lens_is n n f (Nat.le_refl _)).2.1 h (by rw [lens_len]; exact hk)
theorem sm_all {f : Nat → Int} {n k : Nat} (h : (pts f n).length ≤ k) : sm f n k = n := by
  obtain ⟨h1, _, h3⟩ := lens_is n n f (Nat.le_refl _)
  unfold sm
  rw [List.take_of_length_le (by omega), h3]
theorem sm_le (f : Nat → Int) (n k : Nat) : sm f n k ≤ n := by
  by_cases h : k ≤ (pts f n).length
  · exact (drop_is k n f h).1
  · rw [sm_all (by omega)]; exact Nat.le_refl _
theorem sm_mono {f : Nat → Int} {n j k : Nat} (h : j ≤ k) : sm f n j ≤ sm f n k := by
  by_cases hk : k ≤ (pts f n).length
  · rcases Nat.lt_or_ge j k with h1 | h1
    · exact Nat.le_of_lt (sm_lt h1 hk)
    · obtain rfl : j = k := by omega
      exact Nat.le_refl _
  · rw [sm_all (k := k) (by omega)]; exact sm_le _ _ _
theorem dec_at {f : Nat → Int} {n k : Nat} (h : k < (pts f n).length) : dec (sh f (sm f n k)) (n - sm f n k) true = (it (pts f n) k, ((sm f n (k + 1) - sm f n k : Nat) : Int), false) ∧ sm f n k < n := by
  have hlt := sm_lt (f := f) (n := n) (j := k) (k := k + 1) (by omega) (by omega)
  have hle := sm_le f n (k + 1)
  obtain ⟨h1, h2, h3⟩ := drop_is k n f (by omega)
  have h2 : pts (sh f (sm f n k)) (n - sm f n k) = (pts f n).drop k := h2
  have h3 : lens (sh f (sm f n k)) (n - sm f n k) = (lens f n).drop k := h3
  have hn : 0 < n - sm f n k := by omega
  have hs := step_true (f := sh f (sm f n k)) hn
  rw [pts_step _ hn] at h2
  rw [lens_step _ hn] at h3
  have hk' : k < (lens f n).length := by rw [lens_len]; exact h
  rw [List.drop_eq_getElem_cons h] at h2
  rw [List.drop_eq_getElem_cons hk'] at h3
  have e1 : it (pts f n) k = (pts f n)[k] := by have := Pr.it_get h; rw [List.getElem?_eq_getElem h] at this; exact (Option.some.inj this).symm
  have e2 : sm f n (k + 1) = sm f n k + (lens f n)[k] := by
    unfold sm
    rw [List.take_add_one, List.getElem?_eq_getElem hk', List.sum_append]
    simp
  have d1 : (dec (sh f (sm f n k)) (n - sm f n k) true).1 = it (pts f n) k := by rw [e1]; exact (List.cons.inj h2).1
  have d2 : stepN (sh f (sm f n k)) (n - sm f n k) true = (lens f n)[k] := (List.cons.inj h3).1
  refine ⟨?_, by omega⟩
  refine Prod.ext d1 (Prod.ext ?_ hs.1)
  show (dec (sh f (sm f n k)) (n - sm f n k) true).2.1 = _
  rw [hs.2.2.2, d2]
  congr 1
  omega
/-! ### what is sure -/
theorem sure_none {f : Nat → Int} {n : Nat} (h : sure f n = 0) : rest f n = n := by
  by_cases hn : n = 0
  · subst hn; rfl
  · cases hm : (dec f n false).2.2 with
    | true => exact rest_more f (by omega) hm
    | false => have := sure_step f (n := n) (by omega) hm; omega
theorem sm_whole (f : Nat → Int) (n : Nat) : sm f n (sure f n) = n - rest f n := by
  obtain ⟨h1, h2⟩ := drop_sure (sure f n) n f (Nat.le_refl _)
  have h3 := sure_none (f := sh f (sm f n (sure f n))) (n := n - sm f n (sure f n)) (by show sure _ (n - sm f n (sure f n)) = 0; unfold sm; rw [h2]; omega)
  have h1 : rest (sh f (sm f n (sure f n))) (n - sm f n (sure f n)) = rest f n := h1
  have := sm_le f n (sure f n)
  omega
theorem sm_sure {f : Nat → Int} {n k : Nat} (hk : k ≤ (pts f n).length) : sm f n k ≤ n - rest f n ↔ k ≤ sure f n := by
  rw [← sm_whole]
  have hs := sure_le f n
  constructor
  · intro h
    rcases Nat.lt_or_ge (sure f n) k with h1 | h1
    · have := sm_lt (f := f) (n := n) h1 hk; omega
    · exact h1
  · exact fun h => sm_mono h
/-! ### what needs more, of a last part -/
theorem rest_in : ∀ (k d s n : Nat) (f : Nat → Int), s - d ≤ k → d ≤ s → s ≤ n → (∀ j, d ≤ j → j < s → tail f j) → rest (sh f d) (n - d) = rest (sh f s) (n - s)
  | 0, d, s, n, f, h, hd, hs, _ => by obtain rfl : d = s := by omega
                                      rfl
  | k + 1, d, s, n, f, h, hd, hs, ht => by
    by_cases he : d = s
    · subst he; rfl
    · have t := ht d (Nat.le_refl _) (by omega)
      have hz : dec (sh f d) (n - d) false = (-1, 1, false) := dec_zero (by omega) (sizeOf_0 (by show 128 ≤ f (d + 0); exact t.1) (by show f (d + 0) < 194; have := t.2; rw [Nat.add_zero]; omega))
      have hm : (dec (sh f d) (n - d) false).2.2 = false := by rw [hz]
      have es : stepN (sh f d) (n - d) false = 1 := by unfold stepN; rw [hz]; rfl
      rw [rest_step _ (by omega) hm, es, sh_sh, show n - d - 1 = n - (d + 1) by omega]
      exact rest_in k (d + 1) s n f (by omega) (by omega) hs (fun j h1 h2 => ht j (by omega) h2)
theorem rest_tail : ∀ (k d n : Nat) (f : Nat → Int), n ≤ k → d ≤ n - rest f n → rest (sh f d) (n - d) = rest f n
  | 0, d, n, f, h, hd => by
    obtain rfl : n = 0 := by omega
    obtain rfl : d = 0 := by omega
    rw [sh_zero]
  | k + 1, d, n, f, h, hd => by
    by_cases hd0 : d = 0
    · subst hd0; rw [sh_zero, Nat.sub_zero]
    · cases hm : (dec f n false).2.2 with
      | true => rw [rest_more f (by omega) hm] at hd; omega
      | false =>
        have hs := step_false (f := f) (n := n) (by omega) hm
        have er := rest_step f (n := n) (by omega) hm
        by_cases hsd : stepN f n false ≤ d
        · have ih := rest_tail k (d - stepN f n false) (n - stepN f n false) (sh f (stepN f n false)) (by omega) (by rw [← er]; omega)
          rw [sh_sh, show stepN f n false + (d - stepN f n false) = d by omega, show n - stepN f n false - (d - stepN f n false) = n - d by omega] at ih
          rw [ih, er]
        · rw [er]
          refine rest_in _ d _ n f (Nat.le_refl _) (by omega) hs.2.1 (fun j h1 h2 => ?_)
          rcases dec_cases f n false (by omega) with ⟨s, h0, hs1, hs2, hok, e⟩ | ⟨_, _, _, e⟩ | ⟨e, _⟩
          · have e2 : stepN f n false = s := by unfold stepN; rw [e]; simp
            rw [e2] at h2
            have ho := hok j (by omega) h2
            by_cases hj1 : j = 1
            · subst hj1; exact tail_of_ok (okAt_one.1 ho)
            · exact (okAt_more hj1).1 ho
          · rw [e] at hm; cases hm
          · have e2 : stepN f n false = 1 := by unfold stepN; rw [e]; rfl
            omega
theorem rest_last (f : Nat → Int) (n : Nat) : rest (sh f (n - 3)) (n - (n - 3)) = rest f n := rest_tail n (n - 3) n f (Nat.le_refl _) (by have := rest_le n n f (Nat.le_refl _); omega)
/-! ### signs of one byte -/
theorem low_fwd : ∀ (m n : Nat) (f : Nat → Int), m ≤ n → (∀ i, i < m → 0 ≤ f i ∧ f i < 128) → m ≤ (pts f n).length ∧ ∀ i, i < m → it (pts f n) i = f i
  | 0, n, f, _, _ => ⟨Nat.zero_le _, fun i hi => by omega⟩
  | m + 1, n, f, hm, h => by
    have h0 := h 0 (by omega)
    have hd := dec_ascii (g := f) (n := n) (by omega) h0.1 h0.2 true
    have es : stepN f n true = 1 := by unfold stepN; rw [hd]; rfl
    obtain ⟨h1, h2⟩ := low_fwd m (n - 1) (sh f 1) (by omega) (fun i hi => by show 0 ≤ f (1 + i) ∧ f (1 + i) < 128; exact h _ (by omega))
    rw [pts_step f (by omega), hd, es]
    refine ⟨by simp; omega, fun i hi => ?_⟩
    cases i with
    | zero => rfl
    | succ i =>
      have := h2 i (by omega)
      show it (pts (sh f 1) (n - 1)) i = _
      rw [this]
      show f (1 + i) = f (i + 1)
      rw [Nat.add_comm]
theorem low_bwd : ∀ (m n : Nat) (f : Nat → Int), (∀ i, 0 ≤ f i) → m ≤ (pts f n).length → (∀ i, i < m → 0 ≤ it (pts f n) i ∧ it (pts f n) i < 128) → ∀ i, i < m → f i = it (pts f n) i
  | 0, n, f, _, _, _, i, hi => by omega
  | m + 1, n, f, hz, hl, h, i, hi => by
    have hn : 0 < n := by
      by_cases h0 : n = 0
      · subst h0; simp [pts_zero] at hl
      · omega
    rw [pts_step f hn] at hl h ⊢
    have h0 := h 0 (by omega)
    have hd := dec_low (f := f) (n := n) (fin := true) hn hz h0.1 h0.2
    have es : stepN f n true = 1 := by unfold stepN; rw [hd]; rfl
    rw [hd, es] at hl h ⊢
    cases i with
    | zero => rfl
    | succ i =>
      have := low_bwd m (n - 1) (sh f 1) (fun j => hz _) (by simpa using hl) (fun j hj => h (j + 1) (by omega)) i (by omega)
      show f (i + 1) = it (pts (sh f 1) (n - 1)) i
      rw [← this]
      show f (i + 1) = f (1 + i)
      rw [Nat.add_comm]
/-! ### endings told by bytes -/
/-- A letter as a small one, if capital ones are taken. -/
def lower (w : Bool) (b : Int) : Int := if w = true ∧ 65 ≤ b ∧ b ≤ 90 then b + 32 else b
theorem lower_mt {w : Bool} {b x : Int} (hx : x = 39 ∨ (97 ≤ x ∧ x ≤ 122)) : lower w b = x ↔ mt w b x := by
  unfold lower mt
  constructor
  · intro h
    split at h
    · rename_i hc
      exact .inr ⟨hc.1, by omega, by omega⟩
    · exact .inl h
  · rintro (h | ⟨h1, h2, h3⟩)
    · rw [if_neg (fun e => by omega)]; exact h
    · rw [if_pos ⟨h1, by omega, by omega⟩]; omega
theorem mt_low {w : Bool} {b x : Int} (hx : x = 39 ∨ (97 ≤ x ∧ x ≤ 122)) (h : mt w b x) : 0 ≤ b ∧ b < 128 := by
  rcases h with h | ⟨_, _, h⟩ <;> omega
/-- Do the first bytes tell these letters? -/
def BT (w : Bool) (f : Nat → Int) (m : Nat) (l : List Int) : Prop := ∀ i, i < m → lower w (f i) = l.getD i 0
def Lets (l : List Int) : Prop := ∀ x ∈ l, x = 39 ∨ (97 ≤ x ∧ x ≤ 122)
theorem end_lets (j : Nat) : Lets (endL j) := by
  match j with
  | 0 => exact (by unfold Lets; decide)
  | 1 => exact (by unfold Lets; decide)
  | 2 => exact (by unfold Lets; decide)
  | 3 => exact (by unfold Lets; decide)
  | 4 => exact (by unfold Lets; decide)
  | 5 => exact (by unfold Lets; decide)
  | n + 6 => exact (show Lets [39, 108, 108] by unfold Lets; decide)
theorem lets_at {l : List Int} (h : Lets l) {i : Nat} (hi : i < l.length) : l.getD i 0 = 39 ∨ (97 ≤ l.getD i 0 ∧ l.getD i 0 ≤ 122) := by
  rw [List.getD_eq_getElem?_getD, List.getElem?_eq_getElem hi]
  exact h _ (List.getElem_mem hi)
theorem bt_low {w : Bool} {f : Nat → Int} {m : Nat} {l : List Int} (hl : Lets l) (hm : m ≤ l.length) (h : BT w f m l) : ∀ i, i < m → 0 ≤ f i ∧ f i < 128 := fun i hi => by
  have hx := lets_at hl (i := i) (by omega)
  exact mt_low hx ((lower_mt hx).1 (h i hi))
theorem bt_te {w : Bool} {f : Nat → Int} {n : Nat} {l : List Int} (hz : ∀ i, 0 ≤ f i) (hl : Lets l) : (l.length ≤ (pts f n).length ∧ BT w f l.length l) ↔ TE w (pts f n) l := by
  constructor
  · rintro ⟨h1, h2⟩ j hj
    have hn := pts_len n n f (Nat.le_refl _)
    obtain ⟨h3, h4⟩ := low_fwd l.length n f (by omega) (bt_low hl (Nat.le_refl _) h2)
    refine ⟨by omega, ?_⟩
    rw [h4 j hj]
    exact (lower_mt (lets_at hl hj)).1 (h2 j hj)
  · intro h
    by_cases h0 : l.length = 0
    · exact ⟨by omega, fun i hi => by omega⟩
    · have h1 := (h (l.length - 1) (by omega)).1
      have h2 := low_bwd l.length n f hz (by omega) (fun i hi => mt_low (lets_at hl hi) (h i hi).2)
      refine ⟨by omega, fun i hi => ?_⟩
      rw [lower_mt (lets_at hl hi), h2 i hi]
      exact (h i hi).2
/-- The ending's points, told by bytes. -/
theorem ending_bytes {w : Bool} {f : Nat → Int} {n j : Nat} (hz : ∀ i, 0 ≤ f i) (hj : j < 7) (h : (endL j).length ≤ (pts f n).length ∧ BT w f (endL j).length (endL j)) (hno : ∀ i, i < j → ¬ ((endL i).length ≤ (pts f n).length ∧ BT w f (endL i).length (endL i))) : ending w (pts f n) = (endL j).length :=
  ending_first hj ((bt_te hz (end_lets j)).1 h) (fun i hi e => hno i hi ((bt_te hz (end_lets i)).2 e))
theorem ending_nobytes {w : Bool} {f : Nat → Int} {n : Nat} (hz : ∀ i, 0 ≤ f i) (hno : ∀ i, i < 7 → ¬ ((endL i).length ≤ (pts f n).length ∧ BT w f (endL i).length (endL i))) : ending w (pts f n) = 0 :=
  ending_none (fun i hi e => hno i hi ((bt_te hz (end_lets i)).2 e))
/-- Are the first so many bytes just a first part of an ending? -/
def May' (w : Bool) (f : Nat → Int) (m : Nat) : Prop := ∃ j, j < 7 ∧ m < (endL j).length ∧ BT w f m (endL j)
theorem bg_of (j : Nat) (hj : j < 4) : ∃ i, i < 7 ∧ (bgL j).length < (endL i).length ∧ bgL j = (endL i).take (bgL j).length := by
  match j, hj with
  | 0, _ => exact ⟨0, by decide, by decide, rfl⟩
  | 1, _ => exact ⟨4, by decide, by decide, rfl⟩
  | 2, _ => exact ⟨5, by decide, by decide, rfl⟩
  | 3, _ => exact ⟨6, by decide, by decide, rfl⟩
theorem of_bg (i m : Nat) (hi : i < 7) (h0 : 0 < m) (hm : m < (endL i).length) : ∃ j, j < 4 ∧ (bgL j).length = m ∧ bgL j = (endL i).take m := by
  match i, hi with
  | 0, _ => exact ⟨0, by decide, by have : m < 2 := hm; show 1 = m; omega, by have : m < 2 := hm; obtain rfl : m = 1 := (by omega); rfl⟩
  | 1, _ => exact ⟨0, by decide, by have : m < 2 := hm; show 1 = m; omega, by have : m < 2 := hm; obtain rfl : m = 1 := (by omega); rfl⟩
  | 2, _ => exact ⟨0, by decide, by have : m < 2 := hm; show 1 = m; omega, by have : m < 2 := hm; obtain rfl : m = 1 := (by omega); rfl⟩
  | 3, _ => exact ⟨0, by decide, by have : m < 2 := hm; show 1 = m; omega, by have : m < 2 := hm; obtain rfl : m = 1 := (by omega); rfl⟩
  | 4, _ =>
    have : m < 3 := hm
    by_cases h1 : m = 1
    · subst h1; exact ⟨0, by decide, rfl, rfl⟩
    · obtain rfl : m = 2 := by omega
      exact ⟨1, by decide, rfl, rfl⟩
  | 5, _ =>
    have : m < 3 := hm
    by_cases h1 : m = 1
    · subst h1; exact ⟨0, by decide, rfl, rfl⟩
    · obtain rfl : m = 2 := by omega
      exact ⟨2, by decide, rfl, rfl⟩
  | 6, _ =>
    have : m < 3 := hm
    by_cases h1 : m = 1
    · subst h1; exact ⟨0, by decide, rfl, rfl⟩
    · obtain rfl : m = 2 := by omega
      exact ⟨3, by decide, rfl, rfl⟩
  | n + 7, h => omega
theorem getD_take {l : List Int} {m i : Nat} (h : i < m) : (l.take m).getD i 0 = l.getD i 0 := by
  rw [List.getD_eq_getElem?_getD, List.getD_eq_getElem?_getD, List.getElem?_take_of_lt h]
theorem sm_low {f : Nat → Int} {n m : Nat} (hz : ∀ i, 0 ≤ f i) (hm : m ≤ (pts f n).length) (h : ∀ i, i < m → 0 ≤ it (pts f n) i ∧ it (pts f n) i < 128) : sm f n m = m :=
  ones m n f hz hm (fun p hp => by
    obtain ⟨i, hi, rfl⟩ := List.mem_iff_getElem.1 hp
    rw [List.length_take] at hi
    have := h i (by omega)
    have e : it (pts f n) i = (pts f n)[i]'(by omega) := by have h := Pr.it_get (xs := pts f n) (i := i) (by omega); rw [List.getElem?_eq_getElem (by omega)] at h; exact (Option.some.inj h).symm
    rw [e] at this
    simpa using this)
theorem begun_bytes {w : Bool} {f : Nat → Int} {n : Nat} (hz : ∀ i, 0 ≤ f i) (hs : 1 ≤ sure f n) : May' w f (n - rest f n) ↔ begun w (sure f n) (pts f n) = true := by
  have hsl := sure_le f n
  have hw := sm_whole f n
  have h1 : 1 ≤ n - rest f n := by
    have := sm_lt (f := f) (n := n) (j := 0) (k := sure f n) (by omega) hsl
    rw [sm_zero] at this
    omega
  constructor
  · rintro ⟨j, hj, hm, hb⟩
    obtain ⟨g, hg, hgl, hge⟩ := of_bg j _ hj (by omega) hm
    have hlow := bt_low (end_lets j) (by omega) hb
    obtain ⟨h2, h3⟩ := low_fwd (n - rest f n) n f (by omega) hlow
    have hsm := sm_low (m := n - rest f n) hz h2 (fun i hi => by rw [h3 i hi]; exact hlow i hi)
    have hsure : sure f n = n - rest f n := by
      rcases Nat.lt_trichotomy (sure f n) (n - rest f n) with h | h | h
      · have := sm_lt (f := f) (n := n) h h2; omega
      · exact h
      · have := sm_lt (f := f) (n := n) h hsl; omega
    refine begun_yes hg (by omega) (fun i hi => ⟨by omega, ?_⟩)
    rw [h3 i (by omega), hge]
    show mt w (f i) (((endL j).take (n - rest f n)).getD i 0)
    rw [getD_take (by omega)]
    exact (lower_mt (lets_at (end_lets j) (by omega))).1 (hb i (by omega))
  · intro h
    have key : ¬ ∀ i, i < 4 → ¬ (sure f n = (bgL i).length ∧ TE w (pts f n) (bgL i)) := fun hno => by
      rw [begun_no hno] at h; cases h
    have ⟨g, hg, hgl, ht⟩ : ∃ g, g < 4 ∧ sure f n = (bgL g).length ∧ TE w (pts f n) (bgL g) := Classical.byContradiction fun hc => key (fun i hi e => hc ⟨i, hi, e.1, e.2⟩)
    obtain ⟨i, hi, hli, hei⟩ := bg_of g hg
    have hlet : ∀ x, x < (bgL g).length → (bgL g).getD x 0 = (endL i).getD x 0 := fun x hx => by
      have e := getD_take (l := endL i) hx
      rw [← hei] at e
      exact e
    have hlow : ∀ x, x < (bgL g).length → 0 ≤ it (pts f n) x ∧ it (pts f n) x < 128 := fun x hx => by
      have := (ht x hx).2
      simp only at this
      rw [hlet x hx] at this
      exact mt_low (lets_at (end_lets i) (by omega)) this
    have hsm := sm_low (m := (bgL g).length) hz (by omega) hlow
    have hwm : n - rest f n = (bgL g).length := by rw [← hw, hgl]; exact hsm
    have hby := low_bwd (bgL g).length n f hz (by omega) hlow
    refine ⟨i, hi, by omega, fun x hx => ?_⟩
    rw [hwm] at hx
    rw [lower_mt (lets_at (end_lets i) (by omega)), hby x hx, ← hlet x hx]
    exact (ht x hx).2
/-! ### pieces, as the program finds them -/
section
variable (cl : Int → Int)
/-- Letters, a point ahead. -/
def lett (l : List Int) : Nat := if (headC cl l = 3 ∨ headC cl l = 0) ∧ 0 < rn cl 1 (l.drop 1) then 1 + rn cl 1 (l.drop 1) else rn cl 1 l
def three (l : List Int) : Nat := min 3 (rn cl 2 l)
end
theorem rn_head {cl : Int → Int} {c : Int} {l : List Int} (hl : l ≠ []) : 0 < rn cl c l ↔ headC cl l = c := by
  cases l with
  | nil => exact absurd rfl hl
  | cons p l =>
    unfold rn headC
    cases hq : isC cl c p with
    | true => rw [tw_cons_yes hq]; simp [isC] at hq; simp [hq]
    | false => rw [tw_cons_no hq]; simp [isC] at hq; simp [hq]
/-- How the program finds a piece of the kind Wide. -/
theorem wide_alt {cl : Int → Int} (hr : ∀ p, 0 ≤ cl p ∧ cl p ≤ 4) {l : List Int} (hl : l ≠ []) :
    wide cl l = if 0 < ending true l then (ending true l, ending true l) else if 0 < lett cl l then more (lett cl l) else if 0 < three cl l then (three cl l, min (three cl l + 1) 3)
      else if 0 < led cl 0 l then more (led cl 0 l + rn cl 4 (l.drop (led cl 0 l))) else if 0 < lastL cl (sp cl l) l then (lastL cl (sp cl l) l, sp cl l + 1) else blanks cl l := by
  have h1 := rn_head (cl := cl) (c := 1) hl
  have hh : 0 ≤ headC cl l ∧ headC cl l ≤ 4 := by
    cases l with
    | nil => exact absurd rfl hl
    | cons p l => exact hr p
  unfold wide
  by_cases e0 : 0 < ending true l
  · rw [if_pos e0, if_pos e0]
  rw [if_neg e0, if_neg e0]
  have h2 := rn_head (cl := cl) (c := 2) hl
  unfold lett three
  by_cases c1 : headC cl l = 1
  · have hpos := h1.2 c1
    rw [if_pos c1, if_neg (c := (headC cl l = 3 ∨ headC cl l = 0) ∧ 0 < rn cl 1 (l.drop 1)) (fun e => by omega), if_pos hpos]
  · have hz : ¬ 0 < rn cl 1 l := fun e => c1 (h1.1 e)
    rw [if_neg c1]
    by_cases c2 : (headC cl l ≠ 2 ∧ headC cl l ≠ 4) ∧ 0 < rn cl 1 (l.drop 1)
    · rw [if_pos c2, if_pos (c := (headC cl l = 3 ∨ headC cl l = 0) ∧ 0 < rn cl 1 (l.drop 1)) ⟨by omega, c2.2⟩, if_pos (by omega)]
    · rw [if_neg c2, if_neg (c := (headC cl l = 3 ∨ headC cl l = 0) ∧ 0 < rn cl 1 (l.drop 1)) (fun e => c2 ⟨by omega, e.2⟩), if_neg hz]
      by_cases c3 : 3 ≤ rn cl 2 l
      · rw [if_pos c3, Nat.min_eq_left c3, if_pos (by omega)]
        rfl
      · rw [if_neg c3, Nat.min_eq_right (by omega)]
        by_cases c4 : 0 < rn cl 2 l
        · rw [if_pos c4, if_pos c4, Nat.min_eq_left (by omega)]
          rfl
        · rw [if_neg c4, if_neg c4]
theorem led_bytes {cl : Int → Int} {c : Int} {f : Nat → Int} {n : Nat} (hz : ∀ i, 0 ≤ f i) (hn : 0 < n) : led cl c (pts f n) = if f 0 = 32 ∧ 0 < rn cl c ((pts f n).drop 1) then 1 + rn cl c ((pts f n).drop 1) else rn cl c (pts f n) := by
  have h := head_is (f := f) (n := n) hn hz (x := 32) (by decide) (by decide)
  unfold led
  by_cases e : f 0 = 32 ∧ 0 < rn cl c ((pts f n).drop 1)
  · rw [if_pos e, if_pos ⟨h.2 e.1, e.2⟩]
  · rw [if_neg e, if_neg (fun k => e ⟨h.1 k.1, k.2⟩)]
/-- How many of some classes stand in a row. -/
def isAny (cl : Int → Int) (cs : List Int) (p : Int) : Bool := cs.contains (cl p)
theorem any_one (cl : Int → Int) (c : Int) : isAny cl [c] = isC cl c := by
  funext p; simp only [isAny, isC, List.contains_cons, List.contains_nil, Bool.or_false]
theorem any_sp (cl : Int → Int) : isAny cl [3, 4] = isS cl := by
  funext p; simp only [isAny, isS, List.contains_cons, List.contains_nil, Bool.or_false]
theorem any_no {cl : Int → Int} (hr : ∀ p, 0 ≤ cl p ∧ cl p ≤ 4) : isAny cl [0, 1, 2] = isN cl := by
  funext p
  have := hr p
  have h : cl p = 0 ∨ cl p = 1 ∨ cl p = 2 ∨ cl p = 3 ∨ cl p = 4 := by omega
  rcases h with h | h | h | h | h <;> simp [isAny, isN, h]
theorem Dec_iff {cl : Int → Int} {kind sure : Nat} {l : List Int} : Dec cl kind sure l ↔ (piece cl kind l).2 ≤ sure ∧ (kind = 1 ∨ begun (kind == 3) sure l = false) := Iff.rfl
end Sc
end Go.Proofs.YtiheagkgpbkkfaaDoor
