/-
  Cutting bytes by a kind and classes: what texts ask of it, in plain mathematics.
-/
import Derived.Test.YtiheagkgpbkkfaaDoorSpMath
import Derived.Test.YtiheagkgpbkkfaaDoorScNx
namespace Go.Proofs.YtiheagkgpbkkfaaDoor
set_option linter.unusedVariables false
namespace Sp
open Sc
/-- The bytes of a list, told by a function. -/
def fn (s : List Int) : Nat → Int := fun i => s.getD i 0
theorem fn_drop (s : List Int) (n : Nat) : fn (s.drop n) = Utf.sh (fn s) n := by
  funext i
  show (s.drop n).getD i 0 = s.getD (n + i) 0
  rw [List.getD_eq_getElem?_getD, List.getD_eq_getElem?_getD, List.getElem?_drop]
theorem fn_app {s t : List Int} {i : Nat} (h : i < s.length) : fn (s ++ t) i = fn s i := by
  unfold fn
  rw [List.getD_eq_getElem?_getD, List.getD_eq_getElem?_getD, List.getElem?_append_left h]
/-- How a kind cuts bytes. -/
def Xk (cl : Int → Int) (kind : Nat) (s : List Int) (o : Bool) : Nat × Bool := nx cl true kind (fn s) s.length o
theorem Xk_cut {cl : Int → Int} (hr : ∀ p, 0 ≤ cl p ∧ cl p ≤ 4) {kind : Nat} (hk : kind ≤ 3) : Cut (Xk cl kind) := by
  have ln : ∀ {s : List Int}, s ≠ [] → 0 < s.length := fun {s} h => List.length_pos_iff.2 h
  have hno : ∀ {s : List Int}, s ≠ [] → ¬ (s.length = 0 ∨ true = false) := fun {s} h e => e.elim (fun e => by have := ln h; omega) (fun e => by cases e)
  refine ⟨fun s o hs => ?_, fun s hs => ?_, fun s t o hs hd => ?_⟩
  · by_cases h0 : kind = 0
    · subst h0
      have := nx_zero (cl := cl) (f := fn s) (fin := o) (hno hs)
      rw [show Xk cl 0 s o = (s.length, o) from this]
      exact ⟨ln hs, Nat.le_refl _⟩
    · have := nx_kind (cl := cl) (f := fn s) (fin := o) (kind := kind) (hno hs) (by omega)
      rw [show Xk cl kind s o = _ from this]
      exact ⟨next_pos hr (ln hs), next_le _ _⟩
  · by_cases h0 : kind = 0
    · subst h0
      have := nx_zero (cl := cl) (f := fn s) (fin := true) (hno hs)
      rw [show Xk cl 0 s true = (s.length, true) from this]
    · have := nx_kind (cl := cl) (f := fn s) (fin := true) (kind := kind) (hno hs) (by omega)
      rw [show Xk cl kind s true = _ from this]
      rfl
  · exact nx_keeps hr hk (ln hs) (by rw [List.length_append]; omega) (fun i hi => (fn_app hi).symm) (show nx cl true kind (fn s) s.length false = ((Xk cl kind s false).1, true) from Prod.ext rfl hd) o
/-- So many pieces have been open. -/
def Fk (cl : Int → Int) (kind K o : Nat) (f : Nat → Int) (n : Nat) : Prop := if kind = 0 then o = 0 ∨ (o = 1 ∧ n = 0) else FwI cl kind K o f n
theorem Fk.start {cl : Int → Int} {kind : Nat} {f : Nat → Int} {n : Nat} : Fk cl kind (Utf.rest f n) 0 f n := by
  unfold Fk
  split
  · exact .inl rfl
  · exact .inl ⟨rfl, rfl⟩
theorem Fk.le {cl : Int → Int} {kind K o n : Nat} {f : Nat → Int} (h : Fk cl kind K o f n) : o ≤ most K := by
  unfold Fk at h
  split at h
  · unfold most; split <;> omega
  · exact FwI.le h
theorem Fk.step {cl : Int → Int} (U : Us cl) {kind K o n : Nat} {f : Nat → Int} (hk : kind ≤ 3) (hn : 0 < n) (h : Fk cl kind K o f n) :
    ∃ N ok, nx cl true (kind : Int) f n false = (N, ok) ∧ 1 ≤ N ∧ N ≤ n ∧ ((ok = true ∧ o = 0 ∧ Fk cl kind K 0 (Utf.sh f N) (n - N)) ∨ (¬ (ok = true ∧ o = 0) ∧ Fk cl kind K (o + 1) (Utf.sh f N) (n - N))) := by
  have hno : ¬ (n = 0 ∨ true = false) := fun e => e.elim (by omega) (fun e => by cases e)
  by_cases h0 : kind = 0
  · subst h0
    refine ⟨n, false, nx_zero hno, hn, Nat.le_refl _, .inr ⟨fun e => (by cases e.1), ?_⟩⟩
    unfold Fk at h ⊢
    rw [if_pos rfl] at h ⊢
    omega
  · have hk' : kind = 1 ∨ kind = 2 ∨ kind = 3 := by omega
    unfold Fk at h ⊢
    rw [if_neg h0] at h
    refine ⟨next cl kind f n, decB cl kind (sure f n) (Utf.pts f n), ?_, next_pos U.rg hn, next_le f n, ?_⟩
    · rw [nx_kind hno hk', Bool.false_or]
    · rw [if_neg h0, if_neg h0]
      rcases few_step U hk' hn h with ⟨e1, e2, e3⟩ | ⟨e1, e2⟩
      · exact .inl ⟨decB_iff.2 e2, e1, e3⟩
      · exact .inr ⟨fun e => e1 ⟨e.2, decB_iff.1 e.1⟩, e2⟩
/-- Of bytes alone few pieces are open. -/
theorem opn_few {cl : Int → Int} (U : Us cl) {kind K : Nat} (hk : kind ≤ 3) : ∀ (k o : Nat) (s : List Int), s.length ≤ k → rl s = s.length → Fk cl kind K o (fn s) s.length → opn (sp (Xk cl kind) false (decide (0 < o)) s) + o ≤ most K
  | _, o, [], _, _, h => by rw [sp_nil]; have := h.le; simpa [opn] using this
  | 0, o, x :: l, h, _, _ => by simp at h
  | k + 1, o, x :: l, h, hr, hF => by
    have hX := Xk_cut U.rg hk
    have hx : isB x = true := by
      cases hx : isB x with
      | true => rfl
      | false => unfold rl at hr; rw [tw_cons_no hx] at hr; simp at hr
    obtain ⟨N, ok, hq, h1, h2, hst⟩ := hF.step U hk (by simp)
    have hrun : (x :: l).take (rl (x :: l)) = x :: l := by rw [hr, List.take_of_length_le (Nat.le_refl _)]
    have hq2 : Xk cl kind ((x :: l).take (rl (x :: l))) (false || decide (rl (x :: l) < (x :: l).length)) = (N, ok) := by
      rw [hrun, decide_eq_false (by omega), Bool.false_or]
      exact hq
    rw [sp_byte hX false _ hx hq2, opn]
    have hl : ((x :: l).drop N).length ≤ k := by rw [List.length_drop]; simp only [List.length_cons] at h ⊢; omega
    have hlen : (x :: l).length - N = ((x :: l).drop N).length := by rw [List.length_drop]
    rcases hst with ⟨e1, e2, e3⟩ | ⟨e1, e2⟩
    · subst e1 e2
      rw [← fn_drop, hlen] at e3
      have := opn_few U hk k 0 _ hl (rl_drop _ N hr) e3
      simpa using this
    · rw [← fn_drop, hlen] at e2
      have ih := opn_few U hk k (o + 1) _ hl (rl_drop _ N hr) e2
      have e3 : (decide (0 < o) || !ok) = true := by
        by_cases ho : 0 < o
        · simp [ho]
        · have : ok = false := by
            cases ok with
            | false => rfl
            | true => exact absurd ⟨rfl, by omega⟩ e1
          simp [this]
      rw [e3]
      rw [decide_eq_true (by omega)] at ih
      simp only [Bool.not_true, Bool.false_eq_true, if_false]
      omega
/-- Few pieces of a text are open. -/
theorem sp_few {cl : Int → Int} (U : Us cl) {kind : Nat} (hk : kind ≤ 3) (l : List Int) : opn (sp (Xk cl kind) false false l) ≤ most (Utf.rest (fn (lastRun l)) (lastRun l).length) := by
  rw [opn_last (Xk_cut U.rg hk) _ l (Nat.le_refl _)]
  have := opn_few U hk _ 0 (lastRun l) (Nat.le_refl _) (lastRun_bytes l) Fk.start
  simpa using this
end Sp
end Go.Proofs.YtiheagkgpbkkfaaDoor
