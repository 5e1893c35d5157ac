/-
  Heaps as the library's container/heap keeps them (up, down over a row), in plain mathematics: told by functions. No program is named here.
-/
import Derived.Test.YtadkiikakgmpnaaBase
namespace Go.Proofs.Ytadkiikakgmpnaa
namespace Hp
section
variable {α : Type}
/-- Two places of a row exchanged. -/
def swp (f : Nat → α) (i j : Nat) : Nat → α := fun k => if k = i then f j else if k = j then f i else f k
theorem swp_l (f : Nat → α) (i j : Nat) : swp f i j i = f j := by simp [swp]
theorem swp_r (f : Nat → α) (i j : Nat) : swp f i j j = f i := by
  unfold swp
  by_cases h : j = i
  · rw [if_pos h, h]
  · rw [if_neg h, if_pos rfl]
theorem swp_o (f : Nat → α) {i j k : Nat} (h1 : k ≠ i) (h2 : k ≠ j) : swp f i j k = f k := by
  unfold swp; rw [if_neg h1, if_neg h2]
/-- What stands in the first n places. -/
def Cont (f : Nat → α) (n : Nat) (e : α) : Prop := ∃ i, i < n ∧ f i = e
theorem swp_cont {f : Nat → α} {n i j : Nat} (hi : i < n) (hj : j < n) (e : α) : Cont (swp f i j) n e ↔ Cont f n e := by
  constructor
  · rintro ⟨k, hk, rfl⟩
    by_cases h1 : k = i
    · exact ⟨j, hj, by rw [h1, swp_l]⟩
    · by_cases h2 : k = j
      · exact ⟨i, hi, by rw [h2, swp_r]⟩
      · exact ⟨k, hk, (swp_o f h1 h2).symm⟩
  · rintro ⟨k, hk, rfl⟩
    by_cases h1 : k = i
    · exact ⟨j, hj, by rw [h1, swp_r]⟩
    · by_cases h2 : k = j
      · exact ⟨i, hi, by rw [h2, swp_l]⟩
      · exact ⟨k, hk, swp_o f h1 h2⟩
/-- No two places hold things of one key. -/
def Inj {κ : Type} (key : α → κ) (f : Nat → α) (n : Nat) : Prop := ∀ i j, i < n → j < n → key (f i) = key (f j) → i = j
theorem swp_inj {κ : Type} {key : α → κ} {f : Nat → α} {n i j : Nat} (hi : i < n) (hj : j < n) (h : Inj key f n) : Inj key (swp f i j) n := by
  have st : ∀ k, k < n → ∃ k', k' < n ∧ swp f i j k = f k' ∧ (k = i ∧ k' = j ∨ k = j ∧ k' = i ∨ k ≠ i ∧ k ≠ j ∧ k' = k) := by
    intro k hk
    by_cases h1 : k = i
    · exact ⟨j, hj, by rw [h1, swp_l], .inl ⟨h1, rfl⟩⟩
    · by_cases h2 : k = j
      · exact ⟨i, hi, by rw [h2, swp_r], .inr (.inl ⟨h2, rfl⟩)⟩
      · exact ⟨k, hk, swp_o f h1 h2, .inr (.inr ⟨h1, h2, rfl⟩)⟩
  intro a b ha hb he
  obtain ⟨a', ha', ea, wa⟩ := st a ha
  obtain ⟨b', hb', eb, wb⟩ := st b hb
  rw [ea, eb] at he
  have := h a' b' ha' hb' he
  omega

variable (lt : α → α → Prop)
/-- The place above. -/
def par (k : Nat) : Nat := (k - 1) / 2
theorem par_lt {k : Nat} (h : 0 < k) : par k < k := by unfold par; omega
/-- Not less than what stands above. -/
def Ok (f : Nat → α) (k : Nat) : Prop := ¬ lt (f k) (f (par k))
/-- A heap. -/
def Heap (f : Nat → α) (n : Nat) : Prop := ∀ k, 0 < k → k < n → Ok lt f k
/-- What 'up' goes by: one place j may be less than what stands above it. -/
structure UInv (f : Nat → α) (n j : Nat) : Prop where
  ok : ∀ k, 0 < k → k < n → k ≠ j → Ok lt f k
  gr : ∀ k, 0 < k → k < n → par k = j → 0 < j → ¬ lt (f k) (f (par j))
/-- What 'down' goes by: what stands below i may be less than it; i itself, unless it has been moved to, may be less than what stands above. -/
structure DInv (f : Nat → α) (n i : Nat) (moved : Prop) : Prop where
  ok : ∀ k, 0 < k → k < n → par k ≠ i → (k = i → moved) → Ok lt f k
  gr : ∀ k, 0 < k → k < n → par k = i → 0 < i → ¬ lt (f k) (f (par i))
/-- A strict order, one way or the other. -/
structure Ord : Prop where
  irr : ∀ a, ¬ lt a a
  tr : ∀ a b c, lt a b → lt b c → lt a c
  nt : ∀ a b c, ¬ lt a b → ¬ lt b c → ¬ lt a c
variable {lt}
theorem Ord.asym (O : Ord lt) {a b : α} (h : lt a b) : ¬ lt b a := fun k => O.irr _ (O.tr _ _ _ h k)
theorem Ord.ntr (O : Ord lt) {a b c : α} (h : ¬ lt a b) (k : ¬ lt b c) : ¬ lt a c := O.nt _ _ _ h k
theorem Heap.root (O : Ord lt) {f : Nat → α} {n : Nat} (h : Heap lt f n) : ∀ k, k < n → ¬ lt (f k) (f 0) := by
  intro k
  induction k using Nat.strongRecOn with
  | ind k ih =>
    intro hk
    by_cases h0 : k = 0
    · rw [h0]; exact O.irr _
    · have hp := par_lt (k := k) (by omega)
      exact O.ntr (h k (by omega) hk) (ih (par k) hp (by omega))
/-! ### up -/
theorem UInv.stop {f : Nat → α} {n j : Nat} (h : UInv lt f n j) (hs : j = 0 ∨ ¬ lt (f j) (f (par j))) : Heap lt f n := by
  intro k h0 hk
  by_cases hkj : k = j
  · rcases hs with hs | hs
    · omega
    · rw [hkj]; exact hs
  · exact h.ok k h0 hk hkj
theorem UInv.step (O : Ord lt) {f : Nat → α} {n j : Nat} (h : UInv lt f n j) (hj : 0 < j) (hjn : j < n) (hl : lt (f j) (f (par j))) : UInv lt (swp f (par j) j) n (par j) := by
  have hp := par_lt hj
  constructor
  · intro k h0 hk hkp
    unfold Ok
    by_cases hkj : k = j
    · rw [hkj, swp_r, swp_l]
      exact O.asym hl
    · rw [swp_o f hkp hkj]
      by_cases h1 : par k = par j
      · rw [h1, swp_l]
        -- beside j: not less than what stood above, which is not less than j
        have := h.ok k h0 hk hkj
        unfold Ok at this
        rw [h1] at this
        exact O.ntr this (O.asym hl)
      · by_cases h2 : par k = j
        · rw [h2, swp_r]
          exact h.gr k h0 hk h2 hj
        · rw [swp_o f h1 h2]
          exact h.ok k h0 hk hkj
  · intro k h0 hk hkp hpp
    have hq := par_lt hpp
    rw [swp_o f (show par (par j) ≠ par j by omega) (show par (par j) ≠ j by omega)]
    by_cases hkj : k = j
    · rw [hkj, swp_r]
      exact h.ok (par j) hpp (by omega) (by omega)
    · rw [swp_o f (show k ≠ par j by have := par_lt h0; omega) hkj]
      have h1 := h.ok k h0 hk hkj
      unfold Ok at h1
      rw [hkp] at h1
      exact O.ntr h1 (h.ok (par j) hpp (by omega) (by omega))
/-! ### down -/
/-- The lesser one of what stands below. -/
structure Kid (lt : α → α → Prop) (f : Nat → α) (n i j : Nat) : Prop where
  low : j < n
  of : 0 < j ∧ par j = i
  le : ∀ k, 0 < k → k < n → par k = i → ¬ lt (f k) (f j)
theorem kids {k i : Nat} (h0 : 0 < k) (h : par k = i) : k = 2 * i + 1 ∨ k = 2 * i + 2 := by unfold par at h; omega
theorem Kid.one (O : Ord lt) {f : Nat → α} {n i : Nat} (h1 : 2 * i + 1 < n) (h2 : ¬ (2 * i + 2 < n ∧ lt (f (2 * i + 2)) (f (2 * i + 1)))) : Kid lt f n i (2 * i + 1) :=
  ⟨h1, ⟨by omega, by unfold par; omega⟩, fun k h0 hk hp => by
    rcases kids h0 hp with rfl | rfl
    · exact O.irr _
    · exact fun h => h2 ⟨hk, h⟩⟩
theorem Kid.two (O : Ord lt) {f : Nat → α} {n i : Nat} (h2 : 2 * i + 2 < n) (hl : lt (f (2 * i + 2)) (f (2 * i + 1))) : Kid lt f n i (2 * i + 2) :=
  ⟨h2, ⟨by omega, by unfold par; omega⟩, fun k h0 hk hp => by
    rcases kids h0 hp with rfl | rfl
    · exact O.asym hl
    · exact O.irr _⟩
theorem DInv.step (O : Ord lt) {f : Nat → α} {n i j : Nat} {m : Prop} (h : DInv lt f n i m) (K : Kid lt f n i j) (hl : lt (f j) (f i)) : DInv lt (swp f i j) n j True := by
  have hj0 := K.of.1
  have hji : i < j := by have := par_lt hj0; rw [K.of.2] at this; exact this
  constructor
  · intro k h0 hk hp _
    unfold Ok
    by_cases hkj : k = j
    · rw [hkj, K.of.2, swp_r, swp_l]
      exact O.asym hl
    · by_cases hki : k = i
      · rw [hki, swp_l]
        have hp2 := par_lt (k := i) (by omega)
        rw [swp_o f (by omega) (by omega)]
        exact h.gr j hj0 K.low K.of.2 (by omega)
      · rw [swp_o f hki hkj]
        by_cases hpi : par k = i
        · rw [hpi, swp_l]
          exact K.le k h0 hk hpi
        · rw [swp_o f hpi hp]
          exact h.ok k h0 hk hpi (fun e => absurd e hki)
  · intro k h0 hk hp _
    have hkj : j < k := by have := par_lt h0; omega
    rw [K.of.2, swp_l, swp_o f (by omega) (by omega)]
    have := h.ok k h0 hk (by omega) (fun e => by omega)
    unfold Ok at this
    rw [hp] at this
    exact this
/-- No one below is less: 'down' is done. -/
theorem DInv.stop {f : Nat → α} {n i : Nat} {m : Prop} (h : DInv lt f n i m) (hs : ∀ k, 0 < k → k < n → par k = i → ¬ lt (f k) (f i)) : (m → Heap lt f n) ∧ UInv lt f n i := by
  have key : ∀ k, 0 < k → k < n → (k = i → m) → Ok lt f k := fun k h0 hk hm => by
    by_cases hp : par k = i
    · unfold Ok; rw [hp]; exact hs k h0 hk hp
    · exact h.ok k h0 hk hp hm
  exact ⟨fun hm k h0 hk => key k h0 hk (fun _ => hm), ⟨fun k h0 hk hki => key k h0 hk (fun e => absurd e hki), h.gr⟩⟩
theorem stop_none {f : Nat → α} {n i : Nat} (h : ¬ 2 * i + 1 < n) : ∀ k, 0 < k → k < n → par k = i → ¬ lt (f k) (f i) := fun k h0 hk hp => by
  rcases kids h0 hp with rfl | rfl <;> omega
theorem stop_kid (O : Ord lt) {f : Nat → α} {n i j : Nat} (K : Kid lt f n i j) (hl : ¬ lt (f j) (f i)) : ∀ k, 0 < k → k < n → par k = i → ¬ lt (f k) (f i) := fun k h0 hk hp => O.ntr (K.le k h0 hk hp) hl
/-! ### how the library's calls begin -/
/-- Push: one thing more behind a heap. -/
theorem push_inv {f : Nat → α} {n : Nat} (h : Heap lt f n) (x : α) : UInv lt (fun k => if k < n then f k else x) (n + 1) n where
  ok k h0 hk hne := by
    have hp := par_lt h0
    show ¬ lt (if k < n then f k else x) (if par k < n then f (par k) else x)
    rw [if_pos (by omega), if_pos (by omega)]
    exact h k h0 (by omega)
  gr k h0 hk hp hn := by have := par_lt h0; omega
/-- A thing at a place of a heap is another one now (Fix, Remove). -/
theorem fix_inv (O : Ord lt) {f : Nat → α} {n i : Nat} (h : Heap lt f n) (hi : i < n) (x : α) : DInv lt (fun k => if k = i then x else f k) n i False where
  ok k h0 hk hp hm := by
    have hki : k ≠ i := fun e => hm e
    show ¬ lt (if k = i then x else f k) (if par k = i then x else f (par k))
    rw [if_neg hki, if_neg hp]
    exact h k h0 hk
  gr k h0 hk hp hi0 := by
    have hp2 := par_lt hi0
    have hk2 := par_lt h0
    show ¬ lt (if k = i then x else f k) (if par i = i then x else f (par i))
    rw [if_neg (by omega), if_neg (by omega)]
    have h1 := h k h0 hk
    have h2 := h i hi0 hi
    unfold Ok at h1 h2
    rw [hp] at h1
    exact O.ntr h1 h2
theorem Heap.sub {f : Nat → α} {n m : Nat} (h : Heap lt f n) (hm : m ≤ n) : Heap lt f m := fun k h0 hk => h k h0 (by omega)
theorem Heap.congr {f g : Nat → α} {n : Nat} (h : Heap lt f n) (e : ∀ k, k < n → f k = g k) : Heap lt g n := fun k h0 hk => by
  have := h k h0 hk
  unfold Ok at this ⊢
  rwa [e k hk, e (par k) (by have := par_lt h0; omega)] at this
theorem UInv.congr {f g : Nat → α} {n j : Nat} (h : UInv lt f n j) (e : ∀ k, k < n → f k = g k) (hj : j < n) : UInv lt g n j where
  ok k h0 hk hne := by
    have := h.ok k h0 hk hne
    unfold Ok at this ⊢
    rwa [e k hk, e (par k) (by have := par_lt h0; omega)] at this
  gr k h0 hk hp h1 := by
    have := h.gr k h0 hk hp h1
    rwa [e k hk, e (par j) (by have := par_lt h1; omega)] at this
theorem DInv.congr {f g : Nat → α} {n i : Nat} {m : Prop} (h : DInv lt f n i m) (e : ∀ k, k < n → f k = g k) (hi : i < n) : DInv lt g n i m where
  ok k h0 hk hp hm := by
    have := h.ok k h0 hk hp hm
    unfold Ok at this ⊢
    rwa [e k hk, e (par k) (by have := par_lt h0; omega)] at this
  gr k h0 hk hp h1 := by
    have := h.gr k h0 hk hp h1
    rwa [e k hk, e (par i) (by have := par_lt h1; omega)] at this
/-- Pop and Remove: place i and the last one exchanged, the last one let go. -/
theorem cut_inv (O : Ord lt) {f : Nat → α} {n i : Nat} (h : Heap lt f (n + 1)) (hi : i < n) : DInv lt (swp f i n) n i False :=
  (fix_inv O (h.sub (Nat.le_succ n)) hi (f n)).congr (fun k hk => by
    by_cases hki : k = i
    · rw [if_pos hki, hki, swp_l]
    · rw [if_neg hki, swp_o f hki (by omega)]) hi
/-- From the root down nothing stands above. -/
theorem DInv.root {f : Nat → α} {n : Nat} {m : Prop} (h : DInv lt f n 0 m) : DInv lt f n 0 True :=
  ⟨fun k h0 hk hp _ => h.ok k h0 hk hp (fun e => by omega), h.gr⟩
/-- What is left when the last one, exchanged with place i, is let go. -/
theorem cut_cont {κ : Type} {key : α → κ} {f : Nat → α} {n i : Nat} (hI : Inj key f (n + 1)) (hi : i ≤ n) (e : α) : Cont (swp f i n) n e ↔ (Cont f (n + 1) e ∧ key e ≠ key (f i)) := by
  constructor
  · rintro ⟨k, hk, rfl⟩
    by_cases hki : k = i
    · rw [hki, swp_l]
      refine ⟨⟨n, by omega, rfl⟩, fun h => ?_⟩
      have := hI n i (by omega) (by omega) h
      omega
    · rw [swp_o f hki (by omega)]
      refine ⟨⟨k, by omega, rfl⟩, fun h => hki (hI k i (by omega) (by omega) h)⟩
  · rintro ⟨⟨k, hk, rfl⟩, hne⟩
    have hki : k ≠ i := fun e => hne (by rw [e])
    by_cases hkn : k = n
    · refine ⟨i, by omega, ?_⟩
      rw [swp_l, hkn]
    · exact ⟨k, by omega, swp_o f hki hkn⟩
end
/-- Entries: a place, an order, and something to tell it by; the lesser order first, of one order the lesser place. -/
abbrev Ent := Int × Int × Int
def lt (a b : Ent) : Prop := a.2.1 < b.2.1 ∨ (a.2.1 = b.2.1 ∧ a.1 < b.1)
theorem lt_ord : Ord lt where
  irr a := by unfold lt; omega
  tr a b c h k := by unfold lt at *; omega
  nt a b c h k := by unfold lt at *; omega
theorem lt_place {a b : Ent} (h : ¬ lt a b) (k : ¬ lt b a) : a.1 = b.1 := by unfold lt at *; omega
/-! ### The reference's row of entries -/
/-- A row without a place's entry. -/
def wo (l : List Ent) (p : Int) : List Ent := l.filter fun e => e.1 != p
/-- No two entries of one place. -/
def Dis (l : List Ent) : Prop := l.Pairwise fun a b => a.1 ≠ b.1
theorem wo_mem {l : List Ent} {p : Int} {e : Ent} : e ∈ wo l p ↔ e ∈ l ∧ e.1 ≠ p := by simp [wo]
theorem wo_dis {l : List Ent} (h : Dis l) (p : Int) : Dis (wo l p) := List.Pairwise.filter _ h
theorem wo_none {l : List Ent} {p : Int} (h : ∀ e ∈ l, e.1 ≠ p) : wo l p = l := by
  unfold wo
  rw [List.filter_eq_self]
  intro e he
  simpa using h e he
theorem wo_len {l : List Ent} (h : Dis l) {p : Int} (hx : ∃ e ∈ l, e.1 = p) : (wo l p).length + 1 = l.length := by
  induction l with
  | nil => obtain ⟨e, he, _⟩ := hx; cases he
  | cons a l ih =>
    have hd := List.pairwise_cons.1 h
    by_cases ha : a.1 = p
    · have h1 : wo (a :: l) p = wo l p := by simp [wo, ha]
      have h2 : wo l p = l := wo_none (fun e he hp => hd.1 e he (by rw [ha, hp]))
      rw [h1, h2]; rfl
    · have h1 : wo (a :: l) p = a :: wo l p := by simp [wo, ha]
      rw [h1]
      obtain ⟨e, he, hp⟩ := hx
      rcases List.mem_cons.1 he with rfl | he
      · exact absurd hp ha
      · have := ih hd.2 ⟨e, he, hp⟩
        simp only [List.length_cons]
        omega
theorem put_dis {l : List Ent} (h : Dis l) (e : Ent) : Dis (wo l e.1 ++ [e]) := by
  unfold Dis
  rw [List.pairwise_append]
  refine ⟨wo_dis h e.1, List.pairwise_singleton _ _, fun a ha b hb => ?_⟩
  obtain rfl := List.mem_singleton.1 hb
  exact (wo_mem.1 ha).2
theorem dis_one {l : List Ent} (h : Dis l) {a b : Ent} (ha : a ∈ l) (hb : b ∈ l) (hp : a.1 = b.1) : a = b := by
  obtain ⟨i, hi, rfl⟩ := List.mem_iff_getElem.1 ha
  obtain ⟨j, hj, rfl⟩ := List.mem_iff_getElem.1 hb
  have hq := List.pairwise_iff_getElem.1 h
  rcases Nat.lt_trichotomy i j with q | q | q
  · exact absurd hp (hq i j hi hj q)
  · subst q; rfl
  · exact absurd hp.symm (hq j i hj hi q)
/-- The first one of several is one. -/
theorem least_one {l : List Ent} (h : Dis l) {a b : Ent} (ha : a ∈ l) (hb : b ∈ l) (la : ∀ e ∈ l, ¬ lt e a) (lb : ∀ e ∈ l, ¬ lt e b) : a = b :=
  dis_one h ha hb (lt_place (lb a ha) (la b hb))
end Hp
end Go.Proofs.Ytadkiikakgmpnaa
