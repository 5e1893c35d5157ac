/-
  What the chapter says of steps and ends of rows, in plain mathematics. No program is named here.
-/
import Derived.Test.YtfgbpjajkmfkoaaVcMath
namespace Go.Proofs.Ytfgbpjajkmfkoaa
open Go.RowKit
namespace Pr
abbrev Row := List Int
/-- The number at a place. -/
def it (xs : Row) (i : Nat) : Int := xs.getD i 0
theorem it_get {xs : Row} {i : Nat} (h : i < xs.length) : xs[i]? = some (it xs i) := by simp [it, h]
theorem it_mem {xs : Row} {i : Nat} (h : i < xs.length) : it xs i ∈ xs := by
  have := it_get h
  exact List.mem_of_getElem? this
theorem it_left {xs ys : Row} {i : Nat} (h : i < xs.length) : it (xs ++ ys) i = it xs i := by
  unfold it
  rw [List.getD_eq_getElem?_getD, List.getD_eq_getElem?_getD, List.getElem?_append_left h]
theorem it_right {xs ys : Row} (i : Nat) : it (xs ++ ys) (xs.length + i) = it ys i := by
  unfold it
  rw [List.getD_eq_getElem?_getD, List.getD_eq_getElem?_getD, List.getElem?_append_right (by omega), show xs.length + i - xs.length = i by omega]
theorem it_ext {xs ys : Row} (hl : xs.length = ys.length) (h : ∀ i, i < xs.length → it xs i = it ys i) : xs = ys := by
  apply List.ext_getElem?
  intro i
  by_cases hi : i < xs.length
  · rw [it_get hi, it_get (by omega), h i hi]
  · rw [List.getElem?_eq_none (by omega), List.getElem?_eq_none (by omega)]
theorem it_take {xs : Row} {m i : Nat} (h : i < m) : it (xs.take m) i = it xs i := by
  unfold it
  rw [List.getD_eq_getElem?_getD, List.getD_eq_getElem?_getD, List.getElem?_take_of_lt h]
theorem it_drop (xs : Row) (m i : Nat) : it (xs.drop m) i = it xs (m + i) := by
  unfold it
  rw [List.getD_eq_getElem?_getD, List.getD_eq_getElem?_getD, List.getElem?_drop]

/-- The first of the first j merges that is of these two tokens. -/
def fndTo (ms : List Mg4) (l r : Int) : Nat → Option Nat
  | 0 => none
  | j + 1 => match fndTo ms l r j with
    | some k => some k
    | none => if (mat ms j).1 = l ∧ (mat ms j).2.1 = r then some j else none
/-- The place of the merge of two tokens. -/
def fnd (ms : List Mg4) (l r : Int) : Option Nat := fndTo ms l r ms.length
theorem fndTo_some {ms : List Mg4} {l r : Int} : ∀ {j k : Nat}, fndTo ms l r j = some k → k < j ∧ (mat ms k).1 = l ∧ (mat ms k).2.1 = r
  | 0, k, h => by simp [fndTo] at h
  | j + 1, k, h => by
    unfold fndTo at h
    cases hq : fndTo ms l r j with
    | some i =>
      rw [hq] at h
      obtain rfl := Option.some.inj h
      have := fndTo_some hq
      exact ⟨by omega, this.2⟩
    | none =>
      rw [hq] at h
      by_cases hc : (mat ms j).1 = l ∧ (mat ms j).2.1 = r
      · simp only [if_pos hc] at h
        obtain rfl := Option.some.inj h
        exact ⟨by omega, hc⟩
      · simp only [if_neg hc] at h
        cases h
theorem fndTo_none {ms : List Mg4} {l r : Int} : ∀ {j : Nat}, fndTo ms l r j = none → ∀ i, i < j → ¬ ((mat ms i).1 = l ∧ (mat ms i).2.1 = r)
  | 0, _, i, hi => by omega
  | j + 1, h, i, hi => by
    unfold fndTo at h
    cases hq : fndTo ms l r j with
    | some k => rw [hq] at h; cases h
    | none =>
      rw [hq] at h
      by_cases hc : (mat ms j).1 = l ∧ (mat ms j).2.1 = r
      · simp only [if_pos hc] at h; cases h
      · by_cases hij : i = j
        · rw [hij]; exact hc
        · exact fndTo_none hq i (by omega)
theorem fndTo_hit {ms : List Mg4} {l r : Int} {j : Nat} (h : fndTo ms l r j = none) (hc : (mat ms j).1 = l ∧ (mat ms j).2.1 = r) : fndTo ms l r (j + 1) = some j := by
  unfold fndTo; rw [h]; simp only [if_pos hc]
theorem fndTo_miss {ms : List Mg4} {l r : Int} {j : Nat} (h : fndTo ms l r j = none) (hc : ¬ ((mat ms j).1 = l ∧ (mat ms j).2.1 = r)) : fndTo ms l r (j + 1) = none := by
  unfold fndTo; rw [h]; simp only [if_neg hc]
theorem fndTo_mono {ms : List Mg4} {l r : Int} {j k : Nat} (h : fndTo ms l r j = some k) : ∀ n, fndTo ms l r (j + n) = some k
  | 0 => h
  | n + 1 => by
    show fndTo ms l r (j + n + 1) = some k
    unfold fndTo
    rw [fndTo_mono h n]
theorem fnd_hit {ms : List Mg4} {l r : Int} {j : Nat} (hj : j < ms.length) (h : fndTo ms l r j = none) (hc : (mat ms j).1 = l ∧ (mat ms j).2.1 = r) : fnd ms l r = some j := by
  have := fndTo_mono (fndTo_hit h hc) (ms.length - (j + 1))
  rw [show j + 1 + (ms.length - (j + 1)) = ms.length by omega] at this
  exact this
theorem fnd_some {ms : List Mg4} {l r : Int} {k : Nat} (h : fnd ms l r = some k) : k < ms.length ∧ (mat ms k).1 = l ∧ (mat ms k).2.1 = r := fndTo_some h
theorem fnd_none {ms : List Mg4} {l r : Int} (h : fnd ms l r = none) : ∀ i, i < ms.length → ¬ ((mat ms i).1 = l ∧ (mat ms i).2.1 = r) := fndTo_none h
/-- The merge of two tokens; noughts. -/
def fm (ms : List Mg4) (l r : Int) : Mg4 := match fnd ms l r with | some k => mat ms k | none => (0, 0, 0, 0)
/-- Is there one? -/
def fb (ms : List Mg4) (l r : Int) : Bool := (fnd ms l r).isSome

/-- The order of a merge. -/
def ord (ms : List Mg4) (k : Nat) : Int := (mat ms k).2.2.2
/-- What a step takes among the first j places: the place, and that of the merge. -/
def bst (ms : List Mg4) (xs : Row) : Nat → Option (Nat × Nat)
  | 0 => none
  | j + 1 => match fnd ms (it xs j) (it xs (j + 1)) with
    | none => bst ms xs j
    | some k => match bst ms xs j with
      | none => some (j, k)
      | some (p, b) => if ord ms k < ord ms b then some (j, k) else some (p, b)
def best (ms : List Mg4) (xs : Row) : Option (Nat × Nat) := bst ms xs (xs.length - 1)
theorem bst_none' {ms : List Mg4} {xs : Row} {j : Nat} (h : fnd ms (it xs j) (it xs (j + 1)) = none) : bst ms xs (j + 1) = bst ms xs j := by
  show (match fnd ms (it xs j) (it xs (j + 1)) with | none => _ | some k => _) = _
  rw [h]
theorem bst_new {ms : List Mg4} {xs : Row} {j k : Nat} (h : fnd ms (it xs j) (it xs (j + 1)) = some k) (hb : bst ms xs j = none) : bst ms xs (j + 1) = some (j, k) := by
  show (match fnd ms (it xs j) (it xs (j + 1)) with | none => _ | some k => _) = _
  rw [h]
  show (match bst ms xs j with | none => _ | some (p, b) => _) = _
  rw [hb]
theorem bst_less {ms : List Mg4} {xs : Row} {j k p b : Nat} (h : fnd ms (it xs j) (it xs (j + 1)) = some k) (hb : bst ms xs j = some (p, b)) (hl : ord ms k < ord ms b) : bst ms xs (j + 1) = some (j, k) := by
  show (match fnd ms (it xs j) (it xs (j + 1)) with | none => _ | some k => _) = _
  rw [h]
  show (match bst ms xs j with | none => _ | some (p, b) => _) = _
  rw [hb]
  exact if_pos hl
theorem bst_keep {ms : List Mg4} {xs : Row} {j k p b : Nat} (h : fnd ms (it xs j) (it xs (j + 1)) = some k) (hb : bst ms xs j = some (p, b)) (hl : ¬ ord ms k < ord ms b) : bst ms xs (j + 1) = some (p, b) := by
  show (match fnd ms (it xs j) (it xs (j + 1)) with | none => _ | some k => _) = _
  rw [h]
  show (match bst ms xs j with | none => _ | some (p, b) => _) = _
  rw [hb]
  exact if_neg hl
/-- What 'the least one, of several the first' says. -/
structure BIs (ms : List Mg4) (xs : Row) (j p k : Nat) : Prop where
  lt : p < j
  fd : fnd ms (it xs p) (it xs (p + 1)) = some k
  all : ∀ i k', i < j → fnd ms (it xs i) (it xs (i + 1)) = some k' → ord ms k ≤ ord ms k' ∧ (i < p → ord ms k < ord ms k')
theorem bst_is {ms : List Mg4} {xs : Row} : ∀ j, (bst ms xs j = none ∧ ∀ i, i < j → fnd ms (it xs i) (it xs (i + 1)) = none) ∨ ∃ p k, bst ms xs j = some (p, k) ∧ BIs ms xs j p k
  | 0 => .inl ⟨rfl, fun i hi => by omega⟩
  | j + 1 => by
    cases hf : fnd ms (it xs j) (it xs (j + 1)) with
    | none =>
      rw [bst_none' hf]
      rcases bst_is (ms := ms) (xs := xs) j with ⟨h1, h2⟩ | ⟨p, k, h1, h2⟩
      · refine .inl ⟨h1, fun i hi => ?_⟩
        by_cases h : i = j
        · rw [h]; exact hf
        · exact h2 i (by omega)
      · refine .inr ⟨p, k, h1, ⟨by have := h2.lt; omega, h2.fd, fun i k' hi hk => ?_⟩⟩
        by_cases h : i = j
        · rw [h, hf] at hk; cases hk
        · exact h2.all i k' (by omega) hk
    | some q =>
      rcases bst_is (ms := ms) (xs := xs) j with ⟨h1, h2⟩ | ⟨p, k, h1, h2⟩
      · refine .inr ⟨j, q, bst_new hf h1, ⟨by omega, hf, fun i k' hi hk => ?_⟩⟩
        by_cases h : i = j
        · rw [h, hf] at hk
          obtain rfl := Option.some.inj hk
          exact ⟨Int.le_refl _, fun h' => by omega⟩
        · rw [h2 i (by omega)] at hk; cases hk
      · by_cases hl : ord ms q < ord ms k
        · refine .inr ⟨j, q, bst_less hf h1 hl, ⟨by omega, hf, fun i k' hi hk => ?_⟩⟩
          by_cases h : i = j
          · rw [h, hf] at hk
            obtain rfl := Option.some.inj hk
            exact ⟨Int.le_refl _, fun h' => by omega⟩
          · have := h2.all i k' (by omega) hk
            exact ⟨by omega, fun _ => by omega⟩
        · refine .inr ⟨p, k, bst_keep hf h1 hl, ⟨by have := h2.lt; omega, h2.fd, fun i k' hi hk => ?_⟩⟩
          by_cases h : i = j
          · rw [h, hf] at hk
            obtain rfl := Option.some.inj hk
            exact ⟨by omega, fun h' => by have := h2.lt; omega⟩
          · exact h2.all i k' (by omega) hk
theorem BIs.one {ms : List Mg4} {xs : Row} {j p k p' k' : Nat} (h : BIs ms xs j p k) (g : BIs ms xs j p' k') : p = p' ∧ k = k' := by
  have e : p = p' := by
    rcases Nat.lt_trichotomy p p' with q | q | q
    · have h1 := (g.all p k h.lt h.fd).2 q
      have h2 := (h.all p' k' g.lt g.fd).1
      omega
    · exact q
    · have h1 := (h.all p' k' g.lt g.fd).2 q
      have h2 := (g.all p k h.lt h.fd).1
      omega
  subst e
  have := h.fd.symm.trans g.fd
  exact ⟨rfl, Option.some.inj this⟩
theorem bst_of {ms : List Mg4} {xs : Row} {j p k : Nat} (h : BIs ms xs j p k) : bst ms xs j = some (p, k) := by
  rcases bst_is (ms := ms) (xs := xs) j with ⟨_, h2⟩ | ⟨p', k', h1, h2⟩
  · have := h2 p h.lt
    rw [h.fd] at this
    cases this
  · obtain ⟨rfl, rfl⟩ := h.one h2
    exact h1
theorem bst_nil {ms : List Mg4} {xs : Row} {j : Nat} (h : ∀ i, i < j → fnd ms (it xs i) (it xs (i + 1)) = none) : bst ms xs j = none := by
  rcases bst_is (ms := ms) (xs := xs) j with ⟨h1, _⟩ | ⟨p', k', _, h2⟩
  · exact h1
  · have := h p' h2.lt
    rw [h2.fd] at this
    cases this
theorem bst_some {ms : List Mg4} {xs : Row} {j p k : Nat} (h : bst ms xs j = some (p, k)) : BIs ms xs j p k := by
  rcases bst_is (ms := ms) (xs := xs) j with ⟨h1, _⟩ | ⟨p', k', h1, h2⟩
  · rw [h1] at h; cases h
  · rw [h1] at h
    cases h
    exact h2
theorem bst_gone {ms : List Mg4} {xs : Row} {j : Nat} (h : bst ms xs j = none) : ∀ i, i < j → fnd ms (it xs i) (it xs (i + 1)) = none := by
  rcases bst_is (ms := ms) (xs := xs) j with ⟨_, h1⟩ | ⟨p', k', h1, h2⟩
  · exact h1
  · rw [h1] at h; cases h

/-- A row with one number in the place of two. -/
def jn (xs : Row) (p : Nat) (o : Int) : Row := xs.take p ++ o :: xs.drop (p + 2)
theorem jn_len {xs : Row} {p : Nat} (o : Int) (h : p + 1 < xs.length) : (jn xs p o).length = xs.length - 1 := by
  unfold jn
  rw [List.length_append, List.length_cons, List.length_take, List.length_drop]
  omega
theorem jn_it {xs : Row} {p : Nat} (o : Int) (h : p + 1 < xs.length) (i : Nat) : it (jn xs p o) i = if i < p then it xs i else if i = p then o else it xs (i + 1) := by
  have hl : (xs.take p).length = p := by rw [List.length_take]; omega
  unfold jn
  by_cases h1 : i < p
  · rw [if_pos h1, it_left (by omega), it_take h1]
  · rw [if_neg h1]
    obtain ⟨m, rfl⟩ : ∃ m, i = p + m := ⟨i - p, by omega⟩
    have e := it_right (xs := xs.take p) (ys := o :: xs.drop (p + 2)) m
    rw [hl] at e
    rw [e]
    cases m with
    | zero => rw [if_pos (by omega)]; rfl
    | succ m =>
      rw [if_neg (by omega)]
      show it (xs.drop (p + 2)) m = _
      rw [it_drop]
      congr 1
      omega
/-- The row behind a step. -/
def step (ms : List Mg4) (xs : Row) : Option Row := match best ms xs with | none => none | some (p, k) => some (jn xs p (mat ms k).2.2.1)
theorem step_none {ms : List Mg4} {xs : Row} (h : best ms xs = none) : step ms xs = none := by unfold step; rw [h]
theorem step_some {ms : List Mg4} {xs : Row} {p k : Nat} (h : best ms xs = some (p, k)) : step ms xs = some (jn xs p (mat ms k).2.2.1) := by unfold step; rw [h]
theorem best_lt {ms : List Mg4} {xs : Row} {p k : Nat} (h : best ms xs = some (p, k)) : p + 1 < xs.length ∧ k < ms.length := by
  have := bst_some h
  exact ⟨by have := this.lt; omega, (fnd_some this.fd).1⟩
theorem step_len {ms : List Mg4} {xs ys : Row} (h : step ms xs = some ys) : ys.length + 1 = xs.length ∧ 2 ≤ xs.length := by
  unfold step at h
  cases hb : best ms xs with
  | none => rw [hb] at h; cases h
  | some q =>
    obtain ⟨p, k⟩ := q
    rw [hb] at h
    obtain rfl := Option.some.inj h
    have := (best_lt hb).1
    rw [jn_len _ this]
    omega
/-- So many steps, as long as there are such. -/
def runN (ms : List Mg4) : Nat → Row → Row
  | 0, xs => xs
  | n + 1, xs => match step ms xs with | none => xs | some ys => runN ms n ys
/-- A row's end. -/
def run (ms : List Mg4) (xs : Row) : Row := runN ms xs.length xs
theorem runN_stop {ms : List Mg4} {xs : Row} (h : step ms xs = none) : ∀ n, runN ms n xs = xs
  | 0 => rfl
  | n + 1 => by unfold runN; rw [h]
theorem runN_step {ms : List Mg4} {xs ys : Row} (h : step ms xs = some ys) (n : Nat) : runN ms (n + 1) xs = runN ms n ys := by
  show (match step ms xs with | none => xs | some ys => runN ms n ys) = _
  rw [h]
theorem run_stop {ms : List Mg4} {xs : Row} (h : step ms xs = none) : run ms xs = xs := runN_stop h _
theorem run_step {ms : List Mg4} {xs ys : Row} (h : step ms xs = some ys) : run ms xs = run ms ys := by
  unfold run
  have := step_len h
  rw [← this.1]
  exact runN_step h _
theorem run_ind {ms : List Mg4} {P : Row → Row → Prop} (h0 : ∀ xs, step ms xs = none → P xs xs) (h1 : ∀ xs ys, step ms xs = some ys → P ys (run ms ys) → P xs (run ms ys)) : ∀ n xs, xs.length ≤ n → P xs (run ms xs)
  | 0, xs, h => by
    cases hs : step ms xs with
    | none => rw [run_stop hs]; exact h0 xs hs
    | some ys => have := step_len hs; omega
  | n + 1, xs, h => by
    cases hs : step ms xs with
    | none => rw [run_stop hs]; exact h0 xs hs
    | some ys =>
      rw [run_step hs]
      have := step_len hs
      exact h1 xs ys hs (run_ind h0 h1 n ys (by omega))
theorem run_end (ms : List Mg4) (xs : Row) : step ms (run ms xs) = none :=
  run_ind (P := fun _ r => step ms r = none) (fun _ h => h) (fun _ _ _ h => h) _ xs (Nat.le_refl _)
theorem run_run (ms : List Mg4) (xs : Row) : run ms (run ms xs) = run ms xs := run_stop (run_end ms xs)
theorem run_len (ms : List Mg4) (xs : Row) : (run ms xs).length ≤ xs.length :=
  run_ind (P := fun xs r => r.length ≤ xs.length) (fun _ _ => Nat.le_refl _) (fun xs ys h k => by have := step_len h; omega) _ xs (Nat.le_refl _)

/-! ### What a row tells -/
/-- The bytes of a row. -/
def cat (ts : Vc.Toks) (xs : Row) : List UInt8 := xs.flatMap fun x => by_ (Vc.tok ts x)
/-- Each number is a token's. -/
def Toks (ts : Vc.Toks) (xs : Row) : Prop := ∀ x ∈ xs, Vc.Is ts x
theorem split_at {xs : Row} {p : Nat} (h : p + 1 < xs.length) : xs = xs.take p ++ it xs p :: it xs (p + 1) :: xs.drop (p + 2) := by
  have hl : (xs.take p).length = p := by rw [List.length_take]; omega
  apply it_ext
  · simp only [List.length_append, List.length_cons, List.length_take, List.length_drop]; omega
  · intro i hi
    by_cases h1 : i < p
    · rw [it_left (by omega), it_take h1]
    · obtain ⟨m, rfl⟩ : ∃ m, i = p + m := ⟨i - p, by omega⟩
      have e := it_right (xs := xs.take p) (ys := it xs p :: it xs (p + 1) :: xs.drop (p + 2)) m
      rw [hl] at e
      rw [e]
      match m with
      | 0 => rfl
      | 1 => rfl
      | m + 2 =>
        show _ = it (xs.drop (p + 2)) m
        rw [it_drop]
        congr 1
        omega
theorem step_cat {ts : Vc.Toks} {ms : List Mg4} (hM : Vc.MayM ts ms) {xs ys : Row} (hT : Toks ts xs) (h : step ms xs = some ys) : Toks ts ys ∧ cat ts ys = cat ts xs := by
  unfold step at h
  cases hb : best ms xs with
  | none => rw [hb] at h; cases h
  | some q =>
    obtain ⟨p, k⟩ := q
    rw [hb] at h
    obtain rfl := Option.some.inj h
    have hB := bst_some hb
    obtain ⟨hk, h1, h2⟩ := fnd_some hB.fd
    have hp := (best_lt hb).1
    obtain ⟨_, _, o1, o2, _, _⟩ := hM.ok k hk
    rw [h1, h2] at o2
    constructor
    · intro x hx
      unfold jn at hx
      rcases List.mem_append.1 hx with g | g
      · exact hT x (List.mem_of_mem_take g)
      · rcases List.mem_cons.1 g with rfl | g
        · exact o1
        · exact hT x (List.mem_of_mem_drop g)
    · have e := split_at hp
      have e2 : cat ts xs = cat ts (xs.take p ++ it xs p :: it xs (p + 1) :: xs.drop (p + 2)) := congrArg (cat ts) e
      rw [e2]
      unfold jn cat
      rw [List.flatMap_append, List.flatMap_append, List.flatMap_cons, List.flatMap_cons, List.flatMap_cons, o2, by_append, List.append_assoc]
theorem run_cat {ts : Vc.Toks} {ms : List Mg4} (hM : Vc.MayM ts ms) {xs : Row} (hT : Toks ts xs) : Toks ts (run ms xs) ∧ cat ts (run ms xs) = cat ts xs :=
  run_ind (ms := ms) (P := fun xs r => Toks ts xs → Toks ts r ∧ cat ts r = cat ts xs) (fun xs _ h => ⟨h, rfl⟩) (fun xs ys h k hx => by
    obtain ⟨h1, h2⟩ := step_cat hM hx h
    obtain ⟨h3, h4⟩ := k h1
    exact ⟨h3, h4.trans h2⟩) _ xs (Nat.le_refl _) hT

/-! ### A number that is no token's -/
theorem odd_right {ts : Vc.Toks} {ms : List Mg4} (hM : Vc.MayM ts ms) {odd : Int} (ho : ¬ Vc.Is ts odd) (l : Int) : fnd ms l odd = none := by
  cases h : fnd ms l odd with
  | none => rfl
  | some k =>
    obtain ⟨hk, _, h2⟩ := fnd_some h
    exact absurd (h2 ▸ (hM.ok k hk).2.1) ho
theorem odd_left {ts : Vc.Toks} {ms : List Mg4} (hM : Vc.MayM ts ms) {odd : Int} (ho : ¬ Vc.Is ts odd) (r : Int) : fnd ms odd r = none := by
  cases h : fnd ms odd r with
  | none => rfl
  | some k =>
    obtain ⟨hk, h1, _⟩ := fnd_some h
    exact absurd (h1 ▸ (hM.ok k hk).1) ho
theorem mid_left {a b : Row} {odd : Int} {i : Nat} (h : i < a.length) : it (a ++ odd :: b) i = it a i := it_left h
theorem mid_odd (a b : Row) (odd : Int) : it (a ++ odd :: b) a.length = odd := by
  have := it_right (xs := a) (ys := odd :: b) 0
  rw [Nat.add_zero] at this
  rw [this]; rfl
theorem mid_right (a b : Row) (odd : Int) (i : Nat) : it (a ++ odd :: b) (a.length + 1 + i) = it b i := by
  have := it_right (xs := a) (ys := odd :: b) (1 + i)
  rw [show a.length + (1 + i) = a.length + 1 + i by omega] at this
  rw [this, Nat.add_comm]
  rfl
theorem mid_len (a b : Row) (odd : Int) : (a ++ odd :: b).length = a.length + 1 + b.length := by
  rw [List.length_append, List.length_cons]; omega
theorem mid_step {ts : Vc.Toks} {ms : List Mg4} (hM : Vc.MayM ts ms) {odd : Int} (ho : ¬ Vc.Is ts odd) (a b : Row) :
    (step ms (a ++ odd :: b) = none ∧ step ms a = none ∧ step ms b = none) ∨ (∃ a', step ms a = some a' ∧ step ms (a ++ odd :: b) = some (a' ++ odd :: b)) ∨ (∃ b', step ms b = some b' ∧ step ms (a ++ odd :: b) = some (a ++ odd :: b')) := by
  have hl := mid_len a b odd
  cases hb : best ms (a ++ odd :: b) with
  | none =>
    have g := bst_gone hb
    refine .inl ⟨step_none hb, step_none (bst_nil fun i hi => ?_), step_none (bst_nil fun i hi => ?_)⟩
    · have := g i (by omega)
      rwa [mid_left (by omega), mid_left (by omega)] at this
    · have := g (a.length + 1 + i) (by omega)
      rwa [mid_right, Nat.add_assoc (a.length + 1) i 1, mid_right] at this
  | some q =>
    obtain ⟨p, k⟩ := q
    have B := bst_some hb
    have hp := (best_lt hb).1
    have hs := step_some hb
    rcases Nat.lt_trichotomy (p + 1) a.length with c | c | c
    · right; left
      have hba : best ms a = some (p, k) := bst_of ⟨by omega, by have := B.fd; rwa [mid_left (by omega), mid_left (by omega)] at this, fun i k' hi hf => B.all i k' (by omega) (by rw [mid_left (by omega), mid_left (by omega)]; exact hf)⟩
      refine ⟨_, step_some hba, ?_⟩
      rw [hs]
      congr 1
      have e1 := jn_len (mat ms k).2.2.1 c
      apply it_ext
      · rw [jn_len _ hp, mid_len, mid_len, e1]; omega
      · intro i hi
        rw [jn_len _ hp] at hi
        rw [jn_it _ hp]
        by_cases h1 : i < a.length - 1
        · rw [mid_left (a := jn a p _) (by omega), jn_it _ c]
          by_cases h2 : i < p
          · rw [if_pos h2, if_pos h2, mid_left (by omega)]
          · rw [if_neg h2, if_neg h2]
            by_cases h3 : i = p
            · rw [if_pos h3, if_pos h3]
            · rw [if_neg h3, if_neg h3, mid_left (by omega)]
        · rw [if_neg (by omega), if_neg (by omega)]
          obtain ⟨m, rfl⟩ : ∃ m, i = a.length - 1 + m := ⟨i - (a.length - 1), by omega⟩
          have e2 := it_right (xs := jn a p (mat ms k).2.2.1) (ys := odd :: b) m
          rw [e1] at e2
          rw [e2, show a.length - 1 + m + 1 = a.length + m by omega]
          exact it_right (xs := a) (ys := odd :: b) m
    · exfalso
      have := B.fd
      rw [c, mid_odd, odd_right hM ho] at this
      cases this
    · by_cases c2 : p = a.length
      · exfalso
        have := B.fd
        rw [c2, mid_odd, odd_left hM ho] at this
        cases this
      · right; right
        obtain ⟨q, rfl⟩ : ∃ q, p = a.length + 1 + q := ⟨p - (a.length + 1), by omega⟩
        have hq : q + 1 < b.length := by omega
        have hbb : best ms b = some (q, k) := bst_of ⟨by omega, by have := B.fd; rwa [mid_right, Nat.add_assoc (a.length + 1) q 1, mid_right] at this, fun i k' hi hf => by
          have := B.all (a.length + 1 + i) k' (by omega) (by rw [mid_right, Nat.add_assoc (a.length + 1) i 1, mid_right]; exact hf)
          exact ⟨this.1, fun h => this.2 (by omega)⟩⟩
        refine ⟨_, step_some hbb, ?_⟩
        rw [hs]
        congr 1
        have e1 := jn_len (mat ms k).2.2.1 hq
        apply it_ext
        · rw [jn_len _ hp, mid_len, mid_len, e1]; omega
        · intro i hi
          rw [jn_len _ hp] at hi
          rw [jn_it _ hp]
          by_cases h1 : i < a.length
          · rw [if_pos (by omega), mid_left h1, mid_left h1]
          · by_cases h2 : i = a.length
            · rw [if_pos (by omega), h2, mid_odd, mid_odd]
            · obtain ⟨m, rfl⟩ : ∃ m, i = a.length + 1 + m := ⟨i - (a.length + 1), by omega⟩
              rw [mid_right a (jn b q _), jn_it _ hq, mid_right, Nat.add_assoc (a.length + 1) m 1, mid_right]
              by_cases h3 : m < q
              · rw [if_pos (by omega), if_pos h3]
              · rw [if_neg (by omega), if_neg h3]
                by_cases h4 : m = q
                · rw [if_pos (by omega), if_pos h4]
                · rw [if_neg (by omega), if_neg h4]
theorem mid_run {ts : Vc.Toks} {ms : List Mg4} (hM : Vc.MayM ts ms) {odd : Int} (ho : ¬ Vc.Is ts odd) : ∀ n (a b : Row), a.length + b.length ≤ n → run ms (a ++ odd :: b) = run ms a ++ odd :: run ms b
  | n, a, b, h => by
    rcases mid_step hM ho a b with ⟨h0, h1, h2⟩ | ⟨a', h1, h2⟩ | ⟨b', h1, h2⟩
    · rw [run_stop h0, run_stop h1, run_stop h2]
    · have := step_len h1
      match n, h with
      | 0, h => omega
      | n + 1, h => rw [run_step h2, run_step h1, mid_run hM ho n a' b (by omega)]
    · have := step_len h1
      match n, h with
      | 0, h => omega
      | n + 1, h => rw [run_step h2, run_step h1, mid_run hM ho n a b' (by omega)]
end Pr
end Go.Proofs.Ytfgbpjajkmfkoaa
