/-
  What becomes of an agenda as a row's places are offered, and as two tokens become one, in plain mathematics. No program is named here.
-/
import Derived.Test.YtcjakjmhghoilaaLotM
namespace Go.Proofs.Ytcjakjmhghoilaa
open Go.RowKit
namespace Pr
open Hp (Ent lt wo Dis wo_mem wo_dis wo_len wo_none put_dis)
set_option linter.unusedVariables false
/-- An agenda behind a place's offer. -/
def aw (ms : List Mg4) (L : Ch) (i : Nat) (l : List Ent) : List Ent := match fit ms L i with | some x => wo l x.1 ++ [x] | none => if i + 1 < L.length then wo l (pl L i) else l
theorem aw_mem {ms : List Mg4} {L : Ch} {i : Nat} {l : List Ent} (hne : ¬ i + 1 < L.length → ∀ x ∈ l, x.1 ≠ (pl L i : Int)) (x : Ent) : x ∈ aw ms L i l ↔ fit ms L i = some x ∨ (x ∈ l ∧ x.1 ≠ (pl L i : Int)) := by
  unfold aw
  cases hf : fit ms L i with
  | some y =>
    have hp := fit_place hf
    simp only [List.mem_append, List.mem_singleton, wo_mem, hp, Option.some.injEq]
    constructor
    · rintro (h | h)
      · exact .inr h
      · exact .inl h.symm
    · rintro (h | h)
      · exact .inr h.symm
      · exact .inl h
  | none =>
    simp only [reduceCtorEq, false_or]
    by_cases g : i + 1 < L.length
    · rw [if_pos g, wo_mem]
    · rw [if_neg g]
      exact ⟨fun h => ⟨h, hne g x h⟩, fun h => h.1⟩
/-- Behind the first j places' offers. -/
def AgTo (ms : List Mg4) (L : Ch) (j : Nat) (l : List Ent) : Prop := ∀ x, x ∈ l ↔ ∃ i, i < j ∧ fit ms L i = some x
theorem agTo_nil (ms : List Mg4) (L : Ch) : AgTo ms L 0 [] := fun x => ⟨fun h => (by cases h), fun ⟨i, hi, _⟩ => by omega⟩
theorem AgTo.next {ms : List Mg4} {L : Ch} {j : Nat} {l : List Ent} (hA : Asc L) (h : AgTo ms L j l) (hj : j < L.length) : AgTo ms L (j + 1) (aw ms L j l) := by
  have hno : ∀ x ∈ l, x.1 ≠ (pl L j : Int) := fun x hx e => by
    obtain ⟨i, hi, hf⟩ := (h x).1 hx
    have h1 := fit_place hf
    have h2 := asc_lt hA hi hj
    omega
  intro x
  rw [aw_mem (fun _ => hno)]
  constructor
  · rintro (hf | ⟨hx, _⟩)
    · exact ⟨j, by omega, hf⟩
    · obtain ⟨i, hi, hf⟩ := (h x).1 hx
      exact ⟨i, by omega, hf⟩
  · rintro ⟨i, hi, hf⟩
    by_cases e : i = j
    · subst e; exact .inl hf
    · have hx := (h x).2 ⟨i, by omega, hf⟩
      exact .inr ⟨hx, hno x hx⟩
theorem AgTo.all {ms : List Mg4} {L : Ch} {j : Nat} {l : List Ent} (h : AgTo ms L j l) (hj : L.length ≤ j) : Agd ms L l := fun x =>
  (h x).trans ⟨fun ⟨i, _, hf⟩ => ⟨i, hf⟩, fun ⟨i, hf⟩ => ⟨i, by have := (fit_some hf).1; omega, hf⟩⟩
/-- An agenda behind two tokens of a row have become one. -/
def jl (ms : List Mg4) (L : Ch) (i : Nat) (o : Int) (l : List Ent) : List Ent :=
  if 0 < i then aw ms (mg L i o) (i - 1) (aw ms (mg L i o) i (wo l (pl L (i + 1)))) else aw ms (mg L i o) i (wo l (pl L (i + 1)))
theorem agd_join {ms : List Mg4} {L : Ch} {l : List Ent} (hA : Asc L) (h : Agd ms L l) {i : Nat} (hi : i + 1 < L.length) (o : Int) : Agd ms (mg L i o) (jl ms L i o (wo l (pl L i))) := by
  have hA2 := mg_asc hA hi o
  have hlen := mg_len hi o
  have hpl := pl_mg o hi
  have h1 : ∀ x, x ∈ wo (wo l (pl L i)) (pl L (i + 1)) ↔ ∃ j, j ≠ i ∧ j ≠ i + 1 ∧ fit ms L j = some x := fun x => by
    rw [wo_mem, wo_mem, h x]
    constructor
    · rintro ⟨⟨⟨j, hf⟩, n1⟩, n2⟩
      have hp := fit_place hf
      exact ⟨j, fun e => n1 (by rw [hp, e]), fun e => n2 (by rw [hp, e]), hf⟩
    · rintro ⟨j, n1, n2, hf⟩
      have hp := fit_place hf
      have hj := (fit_some hf).1
      refine ⟨⟨⟨j, hf⟩, fun e => n1 (asc_inj hA (by omega) (by omega) (by omega))⟩, fun e => n2 (asc_inj hA (by omega) (by omega) (by omega))⟩
  have hp0 : pl (mg L i o) i = pl L i := by rw [hpl, if_pos (Nat.le_refl _)]
  have hno : ∀ x ∈ wo (wo l (pl L i)) (pl L (i + 1)), x.1 ≠ (pl (mg L i o) i : Int) := fun x hx e => by
    obtain ⟨j, n1, _, hf⟩ := (h1 x).1 hx
    have hp := fit_place hf
    have hj := (fit_some hf).1
    rw [hp0] at e
    exact n1 (asc_inj hA (by omega) (by omega) (by omega))
  have h2 : ∀ x, x ∈ aw ms (mg L i o) i (wo (wo l (pl L i)) (pl L (i + 1))) ↔ fit ms (mg L i o) i = some x ∨ ∃ j, j ≠ i ∧ j ≠ i + 1 ∧ fit ms L j = some x := fun x => by
    rw [aw_mem (fun _ => hno), h1 x]
    constructor
    · rintro (hf | ⟨hx, _⟩)
      · exact .inl hf
      · exact .inr hx
    · rintro (hf | hx)
      · exact .inl hf
      · exact .inr ⟨hx, hno x ((h1 x).2 hx)⟩
  unfold jl
  by_cases g : 0 < i
  · rw [if_pos g]
    intro x
    rw [aw_mem (fun e => absurd (show i - 1 + 1 < (mg L i o).length by omega) e), h2 x]
    have hq : pl (mg L i o) (i - 1) = pl L (i - 1) := by rw [hpl, if_pos (by omega)]
    constructor
    · rintro (hf | ⟨hf | ⟨j, n1, n2, hf⟩, hn⟩)
      · exact ⟨_, hf⟩
      · exact ⟨_, hf⟩
      · have hp := fit_place hf
        have n3 : j ≠ i - 1 := fun e => hn (by rw [hp, e, hq])
        rcases Nat.lt_or_ge j i with c | c
        · exact ⟨j, by rw [fit_low ms o hi (by omega)]; exact hf⟩
        · refine ⟨j - 1, ?_⟩
          rw [fit_high ms o hi (by omega), show j - 1 + 1 = j by omega]
          exact hf
    · rintro ⟨j, hf⟩
      have hp := fit_place hf
      have hj := (fit_some hf).1
      by_cases e : j = i - 1
      · subst e; exact .inl hf
      refine .inr ⟨?_, fun e2 => e (asc_inj hA2 (by omega) (by omega) (by omega))⟩
      by_cases e2 : j = i
      · subst e2; exact .inl hf
      right
      rcases Nat.lt_or_ge j i with c | c
      · rw [fit_low ms o hi (by omega)] at hf
        exact ⟨j, by omega, by omega, hf⟩
      · rw [fit_high ms o hi (by omega)] at hf
        exact ⟨j + 1, by omega, by omega, hf⟩
  · rw [if_neg g]
    obtain rfl : i = 0 := by omega
    intro x
    rw [h2 x]
    constructor
    · rintro (hf | ⟨j, n1, n2, hf⟩)
      · exact ⟨_, hf⟩
      · refine ⟨j - 1, ?_⟩
        rw [fit_high ms o hi (by omega), show j - 1 + 1 = j by omega]
        exact hf
    · rintro ⟨j, hf⟩
      by_cases e2 : j = 0
      · subst e2; exact .inl hf
      · rw [fit_high ms o hi (by omega)] at hf
        exact .inr ⟨j + 1, by omega, by omega, hf⟩
/-- Entries of places below N, no two of one place: no more than N. -/
theorem dis_len : ∀ (N : Nat) {l : List Ent}, Dis l → (∀ x ∈ l, 0 ≤ x.1 ∧ x.1 < (N : Int)) → l.length ≤ N
  | 0, l, _, h => by
    cases l with
    | nil => exact Nat.le_refl _
    | cons x l => have := h x (List.mem_cons_self ..); omega
  | N + 1, l, hd, h => by
    have ih := dis_len N (wo_dis hd (N : Int)) (fun x hx => by
      obtain ⟨h1, h2⟩ := wo_mem.1 hx
      have := h x h1
      omega)
    by_cases e : ∃ x ∈ l, x.1 = (N : Int)
    · have := wo_len hd e; omega
    · rw [wo_none (fun x hx hp => e ⟨x, hx, hp⟩)] at ih; omega
/-- A place's offer, told by functions. -/
def awf (ms : List Mg4) (ids nx : Nat → Int) (N p : Nat) (l : List Ent) : List Ent :=
  if nx p = N then l else if fb ms (ids p) (ids (nx p).toNat) = true then wo l (p : Int) ++ [((p : Int), (fm ms (ids p) (ids (nx p).toNat)).2.2.2, (fm ms (ids p) (ids (nx p).toNat)).2.2.1)] else wo l (p : Int)
theorem awf_mem {ms : List Mg4} {ids nx : Nat → Int} {N p : Nat} {l : List Ent} {x : Ent} (h : x ∈ awf ms ids nx N p l) : x ∈ l ∨ x.1 = (p : Int) := by
  unfold awf at h
  split at h
  · exact .inl h
  · split at h
    · rcases List.mem_append.1 h with h | h
      · exact .inl (wo_mem.1 h).1
      · rw [List.mem_singleton.1 h]; exact .inr rfl
    · exact .inl (wo_mem.1 h).1
theorem Lk.awf {ms : List Mg4} {L : Ch} {N : Nat} {z : Int} {ids nx ls : Nat → Int} (h : Lk L N z ids nx ls) {i : Nat} (hi : i < L.length) (l : List Ent) : awf ms ids nx N (pl L i) l = aw ms L i l := by
  unfold Pr.awf aw
  by_cases g : i + 1 < L.length
  · have hn := h.nx_in g
    have hlt := h.lt _ g
    rw [if_neg (by omega), hn, Int.toNat_natCast, h.ids i hi, h.ids (i + 1) g]
    unfold fb fm fit
    rw [if_pos g]
    cases hf : fnd ms (tk L i) (tk L (i + 1)) with
    | none => simp [g]
    | some k => simp [ord]
  · rw [if_pos (h.nx_end hi g), fit_last g, if_neg g]
end Pr
end Go.Proofs.Ytcjakjmhghoilaa
