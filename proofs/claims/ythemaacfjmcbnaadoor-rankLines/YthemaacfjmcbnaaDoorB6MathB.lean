/-
  Plain mathematics of base64: there and back. No program is named here.
-/
import Derived.Test.YthemaacfjmcbnaaDoorB6Math
namespace Go.Proofs.YthemaacfjmcbnaaDoor.B6

theorem one_sign {k n : Nat} {a b c : Int} (h : k ≤ n) : one k n a b c = sgn (six k a b c) := by unfold one; rw [if_pos h]
theorem one_pad {k n : Nat} {a b c : Int} (h : n < k) : one k n a b c = 61 := by unfold one; rw [if_neg (by omega)]
theorem six0 (a b c : Int) : six 0 a b c = a / 4 := rfl
theorem six1 (a b c : Int) : six 1 a b c = a % 4 * 16 + b / 16 := rfl
theorem six2 (a b c : Int) : six 2 a b c = b % 16 * 4 + c / 64 := rfl
theorem six3 (a b c : Int) : six 3 a b c = c % 64 := rfl

/-- The group of three bytes, or less. -/
theorem fp_one (m : Nat) (hm : 1 ≤ m) {a b c : Int} (ha : 0 ≤ a ∧ a ≤ 255) (hb : 0 ≤ b ∧ b ≤ 255) (hc : 0 ≤ c ∧ c ≤ 255) (h1 : m ≤ 1 → b = 0) (h2 : m ≤ 2 → c = 0) :
    fp (one 0 m a b c) (one 1 m a b c) (one 2 m a b c) (one 3 m a b c) = 4 ∧ np (one 0 m a b c) (one 1 m a b c) (one 2 m a b c) (one 3 m a b c) = ((min m 3 : Nat) : Int) := by
  have s0 := six_bd 0 ha hb hc
  have s1 := six_bd 1 ha hb hc
  have s2 := six_bd 2 ha hb hc
  have s3 := six_bd 3 ha hb hc
  have v0 := val_sgn _ s0.1 s0.2
  have v1 := val_sgn _ s1.1 s1.2
  have v2 := val_sgn _ s2.1 s2.2
  have v3 := val_sgn _ s3.1 s3.2
  have n0 := val_ne (c := sgn (six 0 a b c)) (by omega)
  have p0 := pd_val (c := sgn (six 0 a b c)) (by omega)
  have p1 := pd_val (c := sgn (six 1 a b c)) (by omega)
  have p2 := pd_val (c := sgn (six 2 a b c)) (by omega)
  have p3 := pd_val (c := sgn (six 3 a b c)) (by omega)
  rw [one_sign (k := 0) (by omega), one_sign (k := 1) (by omega)]
  by_cases e1 : m = 1
  · subst e1
    rw [one_pad (by omega), one_pad (by omega)]
    refine ⟨?_, by unfold np; rw [p0, p1, pd_61]; rfl⟩
    have := fp_le (sgn (six 0 a b c)) (sgn (six 1 a b c)) 61 61
    have : 4 ≤ fp (sgn (six 0 a b c)) (sgn (six 1 a b c)) 61 61 := by
      rw [fp_4]
      refine ⟨by omega, by omega, Or.inr (Or.inl ⟨rfl, ?_, rfl⟩)⟩
      rw [v1, six1, h1 (by omega)]; omega
    omega
  · by_cases e2 : m = 2
    · subst e2
      rw [one_sign (k := 2) (by omega), one_pad (by omega)]
      refine ⟨?_, by unfold np; rw [p0, p1, p2, pd_61]; rfl⟩
      have := fp_le (sgn (six 0 a b c)) (sgn (six 1 a b c)) (sgn (six 2 a b c)) 61
      have : 4 ≤ fp (sgn (six 0 a b c)) (sgn (six 1 a b c)) (sgn (six 2 a b c)) 61 := by
        rw [fp_4]
        refine ⟨by omega, by omega, Or.inr (Or.inr ⟨by omega, rfl, ?_⟩)⟩
        rw [v2, six2, h2 (by omega)]; omega
      omega
    · rw [one_sign (k := 2) (by omega), one_sign (k := 3) (by omega)]
      rw [show min m 3 = 3 by omega]
      exact (full_iff _ _ _ _).2 ⟨by omega, by omega, by omega, by omega⟩

theorem z_enc (f : Nat → Int) (n g k : Nat) (hk : k < 4) (hg : 3 * g < n) : z (encF f n) (encN n) (4 * g + k) = one k (n - 3 * g) (z f n (3 * g)) (z f n (3 * g + 1)) (z f n (3 * g + 2)) := by
  rw [z_lt (by unfold encN; omega), encF_at f n g k hk]
theorem grp_enc {f : Nat → Int} (hf : ∀ i, 0 ≤ f i ∧ f i ≤ 255) (n g : Nat) (hg : 3 * g < n) : grp (encF f n) (encN n) g = 4 ∧ cnt (encF f n) (encN n) g = ((min (n - 3 * g) 3 : Nat) : Int) := by
  have e0 := z_enc f n g 0 (by omega) hg
  rw [Nat.add_zero] at e0
  unfold grp cnt
  rw [e0, z_enc f n g 1 (by omega) hg, z_enc f n g 2 (by omega) hg, z_enc f n g 3 (by omega) hg]
  exact fp_one _ (by omega) (z_bd hf _) (z_bd hf _) (z_bd hf _) (fun h => z_ge (by omega)) (fun h => z_ge (by omega))
/-- The text of bytes is one. -/
theorem enc_good {f : Nat → Int} (hf : ∀ i, 0 ≤ f i ∧ f i ≤ 255) (n : Nat) : Good (encF f n) (encN n) ∧ decN (encF f n) (encN n) = n := by
  refine ⟨fun g hg => ?_, ?_⟩
  · have hg' : 3 * g < n := by unfold encN at hg; omega
    obtain ⟨h1, h2⟩ := grp_enc hf n g hg'
    refine ⟨h1, ?_⟩
    rw [h2]
    unfold encN
    omega
  · unfold decN
    split
    · rename_i h; unfold encN at h; omega
    · rename_i h
      have e : (encN n - 1) / 4 = (n - 1) / 3 := by unfold encN at h ⊢; omega
      have h0 : 0 < n := by unfold encN at h; omega
      rw [e, (grp_enc hf n _ (by omega)).2]
      omega
/-- It is read as these bytes. -/
theorem dec_enc {f : Nat → Int} (hf : ∀ i, 0 ≤ f i ∧ f i ≤ 255) (n i : Nat) (hi : i < n) : decF (encF f n) i = f i := by
  have sb : ∀ k, k < 4 → 0 ≤ six k (z f n (3 * (i / 3))) (z f n (3 * (i / 3) + 1)) (z f n (3 * (i / 3) + 2)) ∧ six k (z f n (3 * (i / 3))) (z f n (3 * (i / 3) + 1)) (z f n (3 * (i / 3) + 2)) ≤ 63 := fun k _ => six_bd k (z_bd hf _) (z_bd hf _) (z_bd hf _)
  have q : ∀ k, k < 4 → k ≤ n - 3 * (i / 3) → val (encF f n (4 * (i / 3) + k)) = six k (z f n (3 * (i / 3))) (z f n (3 * (i / 3) + 1)) (z f n (3 * (i / 3) + 2)) := fun k hk hle => by
    rw [encF_at f n _ k hk, one_sign hle, val_sgn _ (sb k hk).1 (sb k hk).2]
  have b0 := z_bd (n := n) hf (3 * (i / 3))
  have b1 := z_bd (n := n) hf (3 * (i / 3) + 1)
  have b2 := z_bd (n := n) hf (3 * (i / 3) + 2)
  have hr : i % 3 = 0 ∨ i % 3 = 1 ∨ i % 3 = 2 := by omega
  unfold decF
  rcases hr with hr | hr | hr
  · rw [if_pos hr, show i + i / 3 = 4 * (i / 3) + 0 by omega, show 4 * (i / 3) + 0 + 1 = 4 * (i / 3) + 1 by omega, q 0 (by omega) (by omega), q 1 (by omega) (by omega), six0, six1]
    have : z f n (3 * (i / 3)) = f i := by rw [z_lt (by omega)]; congr 1; omega
    omega
  · rw [if_neg (by omega), if_pos hr, show i + i / 3 = 4 * (i / 3) + 1 by omega, show 4 * (i / 3) + 1 + 1 = 4 * (i / 3) + 2 by omega, q 1 (by omega) (by omega), q 2 (by omega) (by omega), six1, six2]
    have : z f n (3 * (i / 3) + 1) = f i := by rw [z_lt (by omega)]; congr 1; omega
    omega
  · rw [if_neg (by omega), if_neg (by omega), show i + i / 3 = 4 * (i / 3) + 2 by omega, show 4 * (i / 3) + 2 + 1 = 4 * (i / 3) + 3 by omega, q 2 (by omega) (by omega), q 3 (by omega) (by omega), six2, six3]
    have : z f n (3 * (i / 3) + 2) = f i := by rw [z_lt (by omega)]; congr 1; omega
    omega

/-- The bytes of group g. -/
theorem decF_at (f : Nat → Int) (g : Nat) : decF f (3 * g) = (val (f (4 * g)) * 4 + val (f (4 * g + 1)) / 16) % 256 ∧ decF f (3 * g + 1) = (val (f (4 * g + 1)) * 16 + val (f (4 * g + 2)) / 4) % 256 ∧ decF f (3 * g + 2) = (val (f (4 * g + 2)) * 64 + val (f (4 * g + 3))) % 256 := by
  unfold decF
  refine ⟨?_, ?_, ?_⟩
  · rw [if_pos (by omega), show 3 * g + 3 * g / 3 = 4 * g by omega]
  · rw [if_neg (by omega), if_pos (by omega), show 3 * g + 1 + (3 * g + 1) / 3 = 4 * g + 1 by omega]
  · rw [if_neg (by omega), if_neg (by omega), show 3 * g + 2 + (3 * g + 2) / 3 = 4 * g + 2 by omega]
def byt (a b c d : Int) (j : Nat) : Int := if j = 0 then (u a * 4 + u b / 16) % 256 else if j = 1 then (u b * 16 + u c / 4) % 256 else (u c * 64 + u d) % 256
theorem byt_bd (a b c d : Int) (j : Nat) : 0 ≤ byt a b c d j ∧ byt a b c d j ≤ 255 := by
  unfold byt; repeat' split
  all_goals omega
/-- A group's bytes are the text's. -/
theorem dec_group {f : Nat → Int} {n k : Nat} (h : grp f n k = 4) (j : Nat) (hj : (j : Int) < cnt f n k) :
    decF f (3 * k + j) = byt (z f n (4 * k)) (z f n (4 * k + 1)) (z f n (4 * k + 2)) (z f n (4 * k + 3)) j := by
  have hin := grp_in h
  obtain ⟨d0, d1, d2⟩ := decF_at f k
  have hc := (cnt_bd h).2
  unfold grp at h
  unfold cnt at hj
  obtain ⟨ha, hb, hcd⟩ := fp_four h
  rw [z_lt (i := 4 * k) (by omega), z_lt (i := 4 * k + 1) (by omega), z_lt (i := 4 * k + 2) (by omega), z_lt (i := 4 * k + 3) (by omega)] at *
  unfold byt
  have hjc : j = 0 ∨ j = 1 ∨ j = 2 := by
    unfold cnt at hc
    rw [z_lt (i := 4 * k) (by omega), z_lt (i := 4 * k + 1) (by omega), z_lt (i := 4 * k + 2) (by omega), z_lt (i := 4 * k + 3) (by omega)] at hc
    omega
  rcases hjc with rfl | rfl | rfl
  · rw [if_pos rfl, Nat.add_zero, d0, u_val ha, u_val hb]
  · have hc : 0 ≤ val (f (4 * k + 2)) := by
      rcases hcd with q | q | q
      · unfold np at hj; rw [pd_val ha, pd_val hb, q.1, q.2.1, pd_61] at hj; omega
      · exact q.1
      · exact q.1
    rw [if_neg (by omega), if_pos rfl, d1, u_val hb, u_val hc]
  · have hc : 0 ≤ val (f (4 * k + 2)) ∧ 0 ≤ val (f (4 * k + 3)) := by
      rcases hcd with q | q | q
      · unfold np at hj; rw [pd_val ha, pd_val hb, q.1, q.2.1, pd_61] at hj; omega
      · unfold np at hj; rw [pd_val ha, pd_val hb, pd_val q.1, q.2.1, pd_61] at hj; omega
      · exact q
    rw [if_neg (by omega), if_neg (by omega), d2, u_val hc.1, u_val hc.2]
/-- What is read is just its bytes' text. -/
theorem enc_dec {f : Nat → Int} {n : Nat} (h : Good f n) : encN (decN f n) = n ∧ ∀ i, i < n → encF (decF f) (decN f n) i = f i := by
  have hm := good_mod h
  by_cases h0 : n = 0
  · subst h0; exact ⟨by unfold decN encN; rw [if_pos rfl], fun i hi => absurd hi (by omega)⟩
  have hl := h ((n - 1) / 4) (by omega)
  have hc := cnt_bd hl.1
  have hN : decN f n = 3 * ((n - 1) / 4) + (cnt f n ((n - 1) / 4)).toNat := by unfold decN; rw [if_neg h0]
  refine ⟨by rw [hN]; unfold encN; omega, fun i hi => ?_⟩
  -- group g
  have key : ∀ g k, 4 * g < n → k < 4 → encF (decF f) (decN f n) (4 * g + k) = f (4 * g + k) := fun g k hg hk => by
    rw [encF_at _ _ _ _ hk]
    obtain ⟨d0, d1, d2⟩ := decF_at f g
    obtain ⟨hg4, hgc⟩ := h g hg
    have hin := grp_in hg4
    have hcg := cnt_bd hg4
    have v0 := val_bd (f (4 * g))
    have v1 := val_bd (f (4 * g + 1))
    have v2 := val_bd (f (4 * g + 2))
    have v3 := val_bd (f (4 * g + 3))
    have hw := hg4
    have hcn : cnt f n g = np (f (4 * g)) (f (4 * g + 1)) (f (4 * g + 2)) (f (4 * g + 3)) := by
      unfold cnt; rw [z_lt (by omega), z_lt (by omega), z_lt (by omega), z_lt (by omega)]
    unfold grp at hw
    rw [z_lt (by omega), z_lt (by omega), z_lt (by omega), z_lt (by omega)] at hw
    have hlast : n ≤ 4 * g + 4 → decN f n = 3 * g + (cnt f n g).toNat := fun e => by
      rw [hN, show (n - 1) / 4 = g by omega]
    have hmore : ¬ n ≤ 4 * g + 4 → 3 * g + 3 ≤ decN f n := fun e => by omega
    obtain ⟨ha, hb, hcd⟩ := fp_four hw
    have hk4 : k = 0 ∨ k = 1 ∨ k = 2 ∨ k = 3 := by omega
    have sa := sgn_val _ ha
    have sb := sgn_val _ hb
    rcases hcd with ⟨p1, p2, p3⟩ | ⟨p1, p2, p3⟩ | ⟨p1, p2⟩
    · have hc1 : cnt f n g = 1 := by rw [hcn]; unfold np; rw [pd_val ha, pd_val hb, p1, p2, pd_61]; rfl
      have hD := hlast (by omega)
      rw [hc1] at hD
      have hD' : decN f n = 3 * g + 1 := hD
      rw [hD', z_lt (i := 3 * g) (by omega), z_ge (i := 3 * g + 1) (by omega), z_ge (i := 3 * g + 2) (by omega), d0, show 3 * g + 1 - 3 * g = 1 by omega]
      rcases hk4 with rfl | rfl | rfl | rfl
      · rw [one_sign (by omega), six0, Nat.add_zero]
        refine Eq.trans ?_ sa
        congr 1; omega
      · rw [one_sign (by omega), six1]
        refine Eq.trans ?_ sb
        congr 1; omega
      · rw [one_pad (by omega), p1]
      · rw [one_pad (by omega), p2]
    · have sc := sgn_val _ p1
      have hc1 : cnt f n g = 2 := by rw [hcn]; unfold np; rw [pd_val ha, pd_val hb, pd_val p1, p2, pd_61]; rfl
      have hD := hlast (by omega)
      rw [hc1] at hD
      have hD' : decN f n = 3 * g + 2 := hD
      rw [hD', z_lt (i := 3 * g) (by omega), z_lt (i := 3 * g + 1) (by omega), z_ge (i := 3 * g + 2) (by omega), d0, d1, show 3 * g + 2 - 3 * g = 2 by omega]
      rcases hk4 with rfl | rfl | rfl | rfl
      · rw [one_sign (by omega), six0, Nat.add_zero]
        refine Eq.trans ?_ sa
        congr 1; omega
      · rw [one_sign (by omega), six1]
        refine Eq.trans ?_ sb
        congr 1; omega
      · rw [one_sign (by omega), six2]
        refine Eq.trans ?_ sc
        congr 1; omega
      · rw [one_pad (by omega), p2]
    · have sc := sgn_val _ p1
      have sd := sgn_val _ p2
      have hc1 : cnt f n g = 3 := by rw [hcn]; unfold np; rw [pd_val ha, pd_val hb, pd_val p1, pd_val p2]; rfl
      have hD : 3 * g + 3 ≤ decN f n := by
        by_cases e : n ≤ 4 * g + 4
        · have := hlast e; rw [hc1] at this; have t : (3 : Int).toNat = 3 := rfl; omega
        · exact hmore e
      rw [z_lt (i := 3 * g) (by omega), z_lt (i := 3 * g + 1) (by omega), z_lt (i := 3 * g + 2) (by omega), d0, d1, d2]
      rcases hk4 with rfl | rfl | rfl | rfl
      · rw [one_sign (by omega), six0, Nat.add_zero]
        refine Eq.trans ?_ sa
        congr 1; omega
      · rw [one_sign (by omega), six1]
        refine Eq.trans ?_ sb
        congr 1; omega
      · rw [one_sign (by omega), six2]
        refine Eq.trans ?_ sc
        congr 1; omega
      · rw [one_sign (by omega), six3]
        refine Eq.trans ?_ sd
        congr 1; omega
  have := key (i / 4) (i % 4) (by omega) (by omega)
  rwa [show 4 * (i / 4) + i % 4 = i by omega] at this

/-- The text of bytes that stand behind others, three by three. -/
theorem enc_cat (f g : Nat → Int) (n m : Nat) (hn : n % 3 = 0) : encN (n + m) = encN n + encN m ∧ ∀ i, i < encN n + encN m → encF (cat f n g) (n + m) i = cat (encF f n) (encN n) (encF g m) i := by
  refine ⟨by unfold encN; omega, fun i hi => ?_⟩
  unfold encN at hi ⊢
  by_cases h : i < (n + 2) / 3 * 4
  · rw [cat_lt h]
    unfold encF
    have hz : ∀ j, j < 3 → z (cat f n g) (n + m) (3 * (i / 4) + j) = z f n (3 * (i / 4) + j) := fun j hj => by
      rw [z_lt (by omega), z_lt (by omega), cat_lt (by omega)]
    have h0 := hz 0 (by omega)
    rw [Nat.add_zero] at h0
    rw [h0, hz 1 (by omega), hz 2 (by omega)]
    have hk : i % 4 < 4 := by omega
    rw [one_sign (by omega), one_sign (by omega)]
  · rw [cat_ge (by omega)]
    unfold encF
    have e1 : (i - (n + 2) / 3 * 4) % 4 = i % 4 := by omega
    have e2 : 3 * ((i - (n + 2) / 3 * 4) / 4) + n = 3 * (i / 4) := by omega
    have hz : ∀ j, z (cat f n g) (n + m) (3 * (i / 4) + j) = z g m (3 * ((i - (n + 2) / 3 * 4) / 4) + j) := fun j => by
      unfold z
      by_cases hj : 3 * (i / 4) + j < n + m
      · rw [if_pos hj, if_pos (by omega), cat_ge (by omega)]; congr 1; omega
      · rw [if_neg hj, if_neg (by omega)]
    have h0 := hz 0
    rw [Nat.add_zero, Nat.add_zero] at h0
    rw [h0, hz 1, hz 2, e1]
    congr 1
    omega
end Go.Proofs.YthemaacfjmcbnaaDoor.B6
