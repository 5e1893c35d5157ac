/-
  Texts of bytes and marks, as pieces, in plain mathematics: over any way X of cutting bytes. No program is named here.
-/
import Derived.Test.YtiheagkgpbkkfaaDoorLotS
import Derived.Test.YtiheagkgpbkkfaaDoorLotG
namespace Go.Proofs.YtiheagkgpbkkfaaDoor
set_option linter.unusedVariables false
namespace Sp
open Sc (tw tw_le tw_cons_yes tw_cons_no)
/-- Is a symbol a byte? -/
def isB (s : Int) : Bool := decide (0 ≤ s) && decide (s ≤ 255)
theorem isB_iff {s : Int} : isB s = true ↔ 0 ≤ s ∧ s ≤ 255 := by simp [isB]
/-- How many bytes stand in a row at the front. -/
def rl (l : List Int) : Nat := tw isB l
theorem rl_le (l : List Int) : rl l ≤ l.length := tw_le isB l
theorem rl_take : ∀ (l : List Int), ∀ p ∈ l.take (rl l), isB p = true
  | [], p, hp => by simp at hp
  | x :: l, p, hp => by
    cases hx : isB x with
    | false => unfold rl at hp; rw [tw_cons_no hx] at hp; simp at hp
    | true =>
      unfold rl at hp
      rw [tw_cons_yes hx, List.take_succ_cons] at hp
      rcases List.mem_cons.1 hp with rfl | hp
      · exact hx
      · exact rl_take l p hp
theorem rl_pos {x : Int} {l : List Int} (h : isB x = true) : 0 < rl (x :: l) := by unfold rl; rw [tw_cons_yes h]; omega
/-- A row with a mark behind. -/
theorem rl_mark {m : Int} (hm : isB m = false) : ∀ (a b : List Int), rl (a ++ m :: b) = rl a
  | [], b => by unfold rl; rw [List.nil_append, tw_cons_no hm]; rfl
  | x :: a, b => by
    cases hx : isB x with
    | false => unfold rl; rw [List.cons_append, tw_cons_no hx, tw_cons_no hx]
    | true =>
      have := rl_mark hm a b
      unfold rl at this ⊢
      rw [List.cons_append, tw_cons_yes hx, tw_cons_yes hx, this]
/-- A row whose bytes end ahead of its end is the same with more behind. -/
theorem rl_more : ∀ (a b : List Int), rl a < a.length → rl (a ++ b) = rl a
  | [], b, h => by simp at h
  | x :: a, b, h => by
    cases hx : isB x with
    | false => unfold rl; rw [List.cons_append, tw_cons_no hx, tw_cons_no hx]
    | true =>
      unfold rl at h
      rw [tw_cons_yes hx] at h
      have := rl_more a b (by unfold rl; simpa using h)
      unfold rl at this ⊢
      rw [List.cons_append, tw_cons_yes hx, tw_cons_yes hx, this]
/-- Bytes alone, with more behind. -/
theorem rl_all : ∀ (a b : List Int), rl a = a.length → rl (a ++ b) = a.length + rl b
  | [], b, _ => by simp
  | x :: a, b, h => by
    cases hx : isB x with
    | false => unfold rl at h; rw [tw_cons_no hx] at h; simp at h
    | true =>
      unfold rl at h
      rw [tw_cons_yes hx] at h
      have := rl_all a b (by unfold rl; simpa using h)
      unfold rl at this ⊢
      rw [List.cons_append, tw_cons_yes hx, this]
      simp only [List.length_cons]
      omega
theorem rl_drop : ∀ (a : List Int) (n : Nat), rl a = a.length → rl (a.drop n) = (a.drop n).length
  | a, 0, h => by simpa using h
  | [], n + 1, h => by simp [rl, tw]
  | x :: a, n + 1, h => by
    cases hx : isB x with
    | false => unfold rl at h; rw [tw_cons_no hx] at h; simp at h
    | true =>
      unfold rl at h
      rw [tw_cons_yes hx] at h
      exact rl_drop a n (by unfold rl; simpa using h)
/-- What is asked of a way to cut bytes: of bytes, and whether nothing comes behind. -/
structure Cut (X : List Int → Bool → Nat × Bool) : Prop where
  pos : ∀ s o, s ≠ [] → 1 ≤ (X s o).1 ∧ (X s o).1 ≤ s.length
  over : ∀ s, s ≠ [] → (X s true).2 = true
  stays : ∀ s t o, s ≠ [] → (X s false).2 = true → X (s ++ t) o = ((X s false).1, true)
/-- The pieces: how many symbols, whether decided; o: one ahead was not. -/
def spK (X : List Int → Bool → Nat × Bool) (fin : Bool) : Nat → Bool → List Int → List (Nat × Bool)
  | 0, _, _ => []
  | _ + 1, _, [] => []
  | k + 1, o, x :: l => if isB x = true then
      ((X ((x :: l).take (rl (x :: l))) (fin || decide (rl (x :: l) < (x :: l).length))).1, !(o || !(X ((x :: l).take (rl (x :: l))) (fin || decide (rl (x :: l) < (x :: l).length))).2)) ::
        spK X fin k (o || !(X ((x :: l).take (rl (x :: l))) (fin || decide (rl (x :: l) < (x :: l).length))).2) ((x :: l).drop (X ((x :: l).take (rl (x :: l))) (fin || decide (rl (x :: l) < (x :: l).length))).1)
    else (1, true) :: spK X fin k o l
def sp (X : List Int → Bool → Nat × Bool) (fin o : Bool) (l : List Int) : List (Nat × Bool) := spK X fin l.length o l
section
variable {X : List Int → Bool → Nat × Bool}
theorem run_ne {x : Int} {l : List Int} (h : isB x = true) : (x :: l).take (rl (x :: l)) ≠ [] := by
  have := rl_pos (l := l) h
  obtain ⟨k, hk⟩ : ∃ k, rl (x :: l) = k + 1 := ⟨rl (x :: l) - 1, by omega⟩
  rw [hk]
  simp
theorem run_len (l : List Int) : (l.take (rl l)).length = rl l := by rw [List.length_take]; have := rl_le l; omega
theorem spK_fuel (hX : Cut X) (fin : Bool) : ∀ (k j : Nat) (o : Bool) (l : List Int), l.length ≤ k → l.length ≤ j → spK X fin k o l = spK X fin j o l
  | 0, 0, _, _, _, _ => rfl
  | 0, j + 1, o, [], _, _ => rfl
  | 0, j + 1, o, x :: l, h, _ => by simp at h
  | k + 1, 0, o, [], _, _ => rfl
  | k + 1, 0, o, x :: l, _, h => by simp at h
  | k + 1, j + 1, o, [], _, _ => rfl
  | k + 1, j + 1, o, x :: l, h, h' => by
    unfold spK
    by_cases hx : isB x = true
    · rw [if_pos hx, if_pos hx]
      have hp := hX.pos ((x :: l).take (rl (x :: l))) (fin || decide (rl (x :: l) < (x :: l).length)) (run_ne hx)
      rw [spK_fuel hX fin k j _ _ (by rw [List.length_drop]; omega) (by rw [List.length_drop]; omega)]
    · rw [if_neg hx, if_neg hx, spK_fuel hX fin k j _ _ (by simpa using h) (by simpa using h')]
theorem sp_nil (fin o : Bool) : sp X fin o [] = [] := rfl
theorem sp_mark (fin o : Bool) {x : Int} (l : List Int) (h : isB x = false) : sp X fin o (x :: l) = (1, true) :: sp X fin o l := by
  show spK X fin (l.length + 1) o (x :: l) = _
  unfold spK
  rw [if_neg (by rw [h]; decide)]
  rfl
theorem sp_byte (hX : Cut X) (fin o : Bool) {x : Int} {l : List Int} (h : isB x = true) {n : Nat} {d : Bool} (hq : X ((x :: l).take (rl (x :: l))) (fin || decide (rl (x :: l) < (x :: l).length)) = (n, d)) :
    sp X fin o (x :: l) = (n, !(o || !d)) :: sp X fin (o || !d) ((x :: l).drop n) := by
  have hp := hX.pos ((x :: l).take (rl (x :: l))) (fin || decide (rl (x :: l) < (x :: l).length)) (run_ne h)
  show spK X fin (l.length + 1) o (x :: l) = _
  unfold spK
  rw [if_pos h]
  rw [hq] at hp ⊢
  simp only at hp ⊢
  rw [show sp X fin (o || !d) ((x :: l).drop n) = spK X fin ((x :: l).drop n).length (o || !d) ((x :: l).drop n) from rfl]
  rw [spK_fuel hX fin l.length ((x :: l).drop n).length _ _ (by rw [List.length_drop, List.length_cons]; omega) (Nat.le_refl _)]
/-- How many symbols all pieces have. -/
def total : List (Nat × Bool) → Nat
  | [] => 0
  | p :: l => p.1 + total l
theorem sp_total (hX : Cut X) (fin : Bool) : ∀ (k : Nat) (o : Bool) (l : List Int), l.length ≤ k → total (sp X fin o l) = l.length
  | _, o, [], _ => rfl
  | 0, o, x :: l, h => by simp at h
  | k + 1, o, x :: l, h => by
    cases hx : isB x with
    | false =>
      rw [sp_mark fin o l hx, total, sp_total hX fin k o l (by simpa using h)]
      simp only [List.length_cons]
      omega
    | true =>
      obtain ⟨⟨n, d⟩, hq⟩ : ∃ q, X ((x :: l).take (rl (x :: l))) (fin || decide (rl (x :: l) < (x :: l).length)) = q := ⟨_, rfl⟩
      have hp := hX.pos ((x :: l).take (rl (x :: l))) (fin || decide (rl (x :: l) < (x :: l).length)) (run_ne hx)
      rw [hq, run_len] at hp
      have hl := rl_le (x :: l)
      simp only [List.length_cons] at hp hl h ⊢
      rw [sp_byte hX fin o hx hq, total, sp_total hX fin k _ _ (by rw [List.length_drop, List.length_cons]; omega), List.length_drop, List.length_cons]
      omega
/-- Each piece has a symbol. -/
theorem sp_pos (hX : Cut X) (fin : Bool) : ∀ (k : Nat) (o : Bool) (l : List Int), l.length ≤ k → ∀ p ∈ sp X fin o l, 1 ≤ p.1
  | _, o, [], _, p, hp => by rw [sp_nil] at hp; cases hp
  | 0, o, x :: l, h, _, _ => by simp at h
  | k + 1, o, x :: l, h, p, hp => by
    cases hx : isB x with
    | false =>
      rw [sp_mark fin o l hx] at hp
      rcases List.mem_cons.1 hp with rfl | hp
      · exact Nat.le_refl _
      · exact sp_pos hX fin k o l (by simpa using h) p hp
    | true =>
      obtain ⟨⟨n, d⟩, hq⟩ : ∃ q, X ((x :: l).take (rl (x :: l))) (fin || decide (rl (x :: l) < (x :: l).length)) = q := ⟨_, rfl⟩
      have hp' := hX.pos ((x :: l).take (rl (x :: l))) (fin || decide (rl (x :: l) < (x :: l).length)) (run_ne hx)
      rw [hq, run_len] at hp'
      have hl := rl_le (x :: l)
      simp only [List.length_cons] at hp' hl h
      rw [sp_byte hX fin o hx hq] at hp
      rcases List.mem_cons.1 hp with rfl | hp
      · exact hp'.1
      · exact sp_pos hX fin k _ _ (by rw [List.length_drop, List.length_cons]; omega) p hp
/-- Of a final text all pieces are decided. -/
theorem sp_fin (hX : Cut X) : ∀ (k : Nat) (l : List Int), l.length ≤ k → ∀ p ∈ sp X true false l, p.2 = true
  | _, [], _, p, hp => by rw [sp_nil] at hp; cases hp
  | 0, x :: l, h, _, _ => by simp at h
  | k + 1, x :: l, h, p, hp => by
    cases hx : isB x with
    | false =>
      rw [sp_mark true false l hx] at hp
      rcases List.mem_cons.1 hp with rfl | hp
      · rfl
      · exact sp_fin hX k l (by simpa using h) p hp
    | true =>
      obtain ⟨⟨n, d⟩, hq⟩ : ∃ q, X ((x :: l).take (rl (x :: l))) (true || decide (rl (x :: l) < (x :: l).length)) = q := ⟨_, rfl⟩
      have hp' := hX.pos ((x :: l).take (rl (x :: l))) (true || decide (rl (x :: l) < (x :: l).length)) (run_ne hx)
      rw [hq, run_len] at hp'
      have hl := rl_le (x :: l)
      simp only [List.length_cons] at hp' hl h
      have hd : d = true := by
        have := hX.over ((x :: l).take (rl (x :: l))) (run_ne hx)
        rw [Bool.true_or] at hq
        rw [hq] at this
        exact this
      subst hd
      rw [sp_byte hX true false hx hq] at hp
      rcases List.mem_cons.1 hp with rfl | hp
      · rfl
      · exact sp_fin hX k _ (by rw [List.length_drop, List.length_cons]; omega) p hp
/-- Pieces of two texts with a mark between. -/
theorem sp_marks (hX : Cut X) (fin : Bool) {m : Int} (hm : isB m = false) (b : List Int) : ∀ (k : Nat) (a : List Int), a.length ≤ k → sp X fin false (a ++ m :: b) = (sp X true false a).map (fun p => (p.1, true)) ++ (1, true) :: sp X fin false b
  | _, [], _ => by rw [List.nil_append, sp_mark fin false b hm, sp_nil]; rfl
  | 0, x :: l, h => by simp at h
  | k + 1, x :: l, h => by
    cases hx : isB x with
    | false =>
      rw [List.cons_append, sp_mark fin false _ hx, sp_mark true false l hx, sp_marks hX fin hm b k l (by simpa using h)]
      rfl
    | true =>
      obtain ⟨⟨n, d⟩, hq⟩ : ∃ q, X ((x :: l).take (rl (x :: l))) (true || decide (rl (x :: l) < (x :: l).length)) = q := ⟨_, rfl⟩
      have hp' := hX.pos ((x :: l).take (rl (x :: l))) (true || decide (rl (x :: l) < (x :: l).length)) (run_ne hx)
      rw [hq, run_len] at hp'
      have hl := rl_le (x :: l)
      simp only [List.length_cons] at hp' hl h
      have hd : d = true := by
        have := hX.over ((x :: l).take (rl (x :: l))) (run_ne hx)
        rw [Bool.true_or] at hq
        rw [hq] at this
        exact this
      subst hd
      have hrl : rl (x :: (l ++ m :: b)) = rl (x :: l) := rl_mark hm (x :: l) b
      have hq2 : X ((x :: (l ++ m :: b)).take (rl (x :: (l ++ m :: b)))) (fin || decide (rl (x :: (l ++ m :: b)) < (x :: (l ++ m :: b)).length)) = (n, true) := by
        rw [hrl, decide_eq_true (by simp only [List.length_cons, List.length_append]; omega), Bool.or_true]
        rw [Bool.true_or] at hq
        rw [← hq]
        congr 1
        have := List.take_append_of_le_length (l₁ := x :: l) (l₂ := m :: b) (i := rl (x :: l)) (by simp only [List.length_cons]; omega)
        exact this
      have hdr : (x :: (l ++ m :: b)).drop n = (x :: l).drop n ++ m :: b := List.drop_append_of_le_length (l₁ := x :: l) (l₂ := m :: b) (by simp only [List.length_cons]; omega)
      rw [List.cons_append, sp_byte hX fin false hx hq2, sp_byte hX true false hx hq, hdr]
      simp only [Bool.not_true, Bool.or_false]
      rw [sp_marks hX fin hm b k _ (by rw [List.length_drop, List.length_cons]; omega)]
      rfl
/-- Behind a piece that is not decided, among bytes alone, none is. -/
theorem sp_dead (hX : Cut X) : ∀ (k : Nat) (l : List Int), l.length ≤ k → rl l = l.length → ∀ p ∈ sp X false true l, p.2 = false
  | _, [], _, _, p, hp => by rw [sp_nil] at hp; cases hp
  | 0, x :: l, h, _, _, _ => by simp at h
  | k + 1, x :: l, h, hr, p, hp => by
    cases hx : isB x with
    | false => unfold rl at hr; rw [tw_cons_no hx] at hr; simp at hr
    | true =>
      obtain ⟨⟨n, d⟩, hq⟩ : ∃ q, X ((x :: l).take (rl (x :: l))) (false || decide (rl (x :: l) < (x :: l).length)) = q := ⟨_, rfl⟩
      have hp' := hX.pos ((x :: l).take (rl (x :: l))) (false || decide (rl (x :: l) < (x :: l).length)) (run_ne hx)
      rw [hq, run_len] at hp'
      have hl := rl_le (x :: l)
      simp only [List.length_cons] at hp' hl h
      rw [sp_byte hX false true hx hq] at hp
      rcases List.mem_cons.1 hp with rfl | hp
      · rfl
      · exact sp_dead hX k _ (by rw [List.length_drop, List.length_cons]; omega) (rl_drop _ n hr) p (by simpa using hp)
/-- What is decided stays, whatever stands behind. -/
theorem sp_stays (hX : Cut X) (fin : Bool) (b : List Int) : ∀ (k : Nat) (l : List Int), l.length ≤ k → ∀ (i : Nat) (p : Nat × Bool), (sp X false false l)[i]? = some p → p.2 = true → (sp X fin false (l ++ b))[i]? = some p
  | _, [], _, i, p, hp, _ => by rw [sp_nil] at hp; simp at hp
  | 0, x :: l, h, _, _, _, _ => by simp at h
  | k + 1, x :: l, h, i, p, hp, hd => by
    cases hx : isB x with
    | false =>
      rw [sp_mark false false l hx] at hp
      rw [List.cons_append, sp_mark fin false _ hx]
      cases i with
      | zero => simpa using hp
      | succ i =>
        rw [List.getElem?_cons_succ] at hp ⊢
        exact sp_stays hX fin b k l (by simpa using h) i p hp hd
    | true =>
      obtain ⟨⟨n, d⟩, hq⟩ : ∃ q, X ((x :: l).take (rl (x :: l))) (false || decide (rl (x :: l) < (x :: l).length)) = q := ⟨_, rfl⟩
      have hp' := hX.pos ((x :: l).take (rl (x :: l))) (false || decide (rl (x :: l) < (x :: l).length)) (run_ne hx)
      rw [hq, run_len] at hp'
      have hl := rl_le (x :: l)
      simp only [List.length_cons] at hp' hl h
      have hrun := run_ne (l := l) hx
      -- the piece is the same one there, if it is decided
      have key : d = true → X ((x :: (l ++ b)).take (rl (x :: (l ++ b)))) (fin || decide (rl (x :: (l ++ b)) < (x :: (l ++ b)).length)) = (n, true) := fun hd1 => by
        subst hd1
        by_cases hlt : rl (x :: l) < (x :: l).length
        · have hrl : rl (x :: (l ++ b)) = rl (x :: l) := rl_more (x :: l) b hlt
          rw [hrl, decide_eq_true (by simp only [List.length_cons, List.length_append] at hlt ⊢; omega), Bool.or_true]
          rw [decide_eq_true hlt, Bool.false_or] at hq
          rw [← hq]
          congr 1
          exact List.take_append_of_le_length (l₁ := x :: l) (l₂ := b) (i := rl (x :: l)) (by simp only [List.length_cons]; omega)
        · have hr : rl (x :: l) = (x :: l).length := by simp only [List.length_cons] at hlt ⊢; omega
          have hrl : rl (x :: (l ++ b)) = (x :: l).length + rl b := rl_all (x :: l) b hr
          have htk : (x :: (l ++ b)).take (rl (x :: (l ++ b))) = (x :: l).take (rl (x :: l)) ++ b.take (rl b) := by
            rw [hrl, hr, List.take_of_length_le (Nat.le_refl _)]
            have := List.take_length_add_append (l₁ := x :: l) (l₂ := b) (rl b)
            exact this
          rw [htk]
          rw [decide_eq_false hlt, Bool.false_or] at hq
          have := hX.stays ((x :: l).take (rl (x :: l))) (b.take (rl b)) (fin || decide (rl (x :: (l ++ b)) < (x :: (l ++ b)).length)) hrun (by rw [hq])
          rw [this, hq]
      have hdr : (x :: (l ++ b)).drop n = (x :: l).drop n ++ b := List.drop_append_of_le_length (l₁ := x :: l) (l₂ := b) (by simp only [List.length_cons]; omega)
      rw [sp_byte hX false false hx hq] at hp
      cases d with
      | true =>
        rw [List.cons_append, sp_byte hX fin false hx (key rfl), hdr]
        cases i with
        | zero => simpa using hp
        | succ i =>
          rw [List.getElem?_cons_succ] at hp ⊢
          simp only [Bool.not_true, Bool.or_false] at hp ⊢
          exact sp_stays hX fin b k _ (by rw [List.length_drop, List.length_cons]; omega) i p hp hd
      | false =>
        exfalso
        have hr : rl (x :: l) = (x :: l).length := by
          apply Classical.byContradiction
          intro hne
          have hlt : rl (x :: l) < (x :: l).length := by simp only [List.length_cons] at hne ⊢; omega
          have := hX.over ((x :: l).take (rl (x :: l))) hrun
          rw [decide_eq_true hlt, Bool.false_or] at hq
          rw [hq] at this
          cases this
        cases i with
        | zero =>
          simp only [List.getElem?_cons_zero, Option.some.injEq] at hp
          rw [← hp] at hd
          simp at hd
        | succ i =>
          rw [List.getElem?_cons_succ] at hp
          have := sp_dead hX _ _ (Nat.le_refl _) (rl_drop _ n hr) p (by simpa using List.mem_of_getElem? hp)
          rw [this] at hd
          cases hd
/-- How many symbols the decided pieces have. -/
def dsum : List (Nat × Bool) → Nat
  | [] => 0
  | p :: l => (if p.2 = true then p.1 else 0) + dsum l
theorem dsum_le : ∀ (a b : List (Nat × Bool)), (∀ (i : Nat) (p : Nat × Bool), a[i]? = some p → p.2 = true → b[i]? = some p) → dsum a ≤ dsum b
  | [], b, _ => Nat.zero_le _
  | p :: a, [], h => by
    have h0 : p.2 = false := by
      cases hp : p.2 with
      | false => rfl
      | true => have := h 0 p rfl hp; simp at this
    have := dsum_le a [] (fun i q hq hd => by have := h (i + 1) q (by simpa using hq) hd; simp at this)
    unfold dsum
    rw [h0]
    simpa [dsum] using this
  | p :: a, q :: b, h => by
    have ih := dsum_le a b (fun i r hr hd => by have := h (i + 1) r (by simpa using hr) hd; simpa using this)
    unfold dsum
    cases hp : p.2 with
    | false =>
      simp only [Bool.false_eq_true, if_false]
      omega
    | true =>
      have := h 0 p rfl hp
      simp only [List.getElem?_cons_zero, Option.some.injEq] at this
      rw [this, hp]
      simp only [if_true]
      omega
theorem dsum_sp (hX : Cut X) (l b : List Int) : dsum (sp X false false l) ≤ dsum (sp X false false (l ++ b)) := dsum_le _ _ (sp_stays hX false b _ l (Nat.le_refl _))
/-- How many pieces are not decided. -/
def opn : List (Nat × Bool) → Nat
  | [] => 0
  | p :: l => (if p.2 = true then 0 else 1) + opn l
/-- The bytes at a text's end, behind its last mark. -/
def lastRun : List Int → List Int
  | [] => []
  | x :: l => if rl (x :: l) = (x :: l).length then x :: l else lastRun l
theorem lastRun_all {l : List Int} (h : rl l = l.length) : lastRun l = l := by
  cases l with
  | nil => rfl
  | cons x l => unfold lastRun; rw [if_pos h]
theorem lastRun_bytes : ∀ l : List Int, rl (lastRun l) = (lastRun l).length
  | [] => rfl
  | x :: l => by
    unfold lastRun
    by_cases h : rl (x :: l) = (x :: l).length
    · rw [if_pos h]; exact h
    · rw [if_neg h]; exact lastRun_bytes l
theorem lastRun_mark {x : Int} (l : List Int) (h : isB x = false) : lastRun (x :: l) = lastRun l := by
  conv => lhs; unfold lastRun
  rw [if_neg (by unfold rl; rw [tw_cons_no h]; simp)]
theorem lastRun_drop : ∀ (n : Nat) (l : List Int), rl l < l.length → n ≤ rl l → lastRun (l.drop n) = lastRun l
  | 0, l, _, _ => by simp
  | n + 1, [], h, _ => by simp at h
  | n + 1, x :: l, h, hn => by
    cases hx : isB x with
    | false => unfold rl at hn; rw [tw_cons_no hx] at hn; omega
    | true =>
      have e : rl (x :: l) = rl l + 1 := by unfold rl; rw [tw_cons_yes hx]
      rw [e] at h hn
      simp only [List.length_cons] at h
      rw [List.drop_succ_cons, lastRun_drop n l (by omega) (by omega)]
      conv => rhs; unfold lastRun
      rw [if_neg (by rw [e]; simp only [List.length_cons]; omega)]
/-- Only the last bytes' pieces are not decided. -/
theorem opn_last (hX : Cut X) : ∀ (k : Nat) (l : List Int), l.length ≤ k → opn (sp X false false l) = opn (sp X false false (lastRun l))
  | _, [], _ => rfl
  | 0, x :: l, h => by simp at h
  | k + 1, x :: l, h => by
    by_cases hall : rl (x :: l) = (x :: l).length
    · rw [lastRun_all hall]
    cases hx : isB x with
    | false =>
      rw [lastRun_mark l hx, sp_mark false false l hx, opn, opn_last hX k l (by simpa using h)]
      simp
    | true =>
      obtain ⟨⟨n, d⟩, hq⟩ : ∃ q, X ((x :: l).take (rl (x :: l))) (false || decide (rl (x :: l) < (x :: l).length)) = q := ⟨_, rfl⟩
      have hp' := hX.pos ((x :: l).take (rl (x :: l))) (false || decide (rl (x :: l) < (x :: l).length)) (run_ne hx)
      rw [hq, run_len] at hp'
      have hl := rl_le (x :: l)
      simp only [List.length_cons] at hp' hl h
      have hlt : rl (x :: l) < (x :: l).length := by simp only [List.length_cons] at hall ⊢; omega
      have hd : d = true := by
        have := hX.over ((x :: l).take (rl (x :: l))) (run_ne hx)
        rw [decide_eq_true hlt, Bool.false_or] at hq
        rw [hq] at this
        exact this
      subst hd
      rw [sp_byte hX false false hx hq, opn]
      simp only [Bool.not_true, Bool.or_false, Bool.not_false, if_true]
      rw [opn_last hX k _ (by rw [List.length_drop, List.length_cons]; omega), lastRun_drop n (x :: l) hlt (by omega)]
      omega
end
end Sp
end Go.Proofs.YtiheagkgpbkkfaaDoor
