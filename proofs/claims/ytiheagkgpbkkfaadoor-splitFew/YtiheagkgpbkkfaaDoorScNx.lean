/-
  The first piece of bytes, and whether it is decided, as plain functions. No program is named here.
-/
import Derived.Test.YtiheagkgpbkkfaaDoorLotS
namespace Go.Proofs.YtiheagkgpbkkfaaDoor
set_option linter.unusedVariables false
namespace Sc
open Utf
/-- Is a piece decided? -/
def decB (cl : Int → Int) (kind sure : Nat) (l : List Int) : Bool := decide ((piece cl kind l).2 ≤ sure) && (kind == 1 || !begun (kind == 3) sure l)
theorem decB_iff {cl : Int → Int} {kind sure : Nat} {l : List Int} : decB cl kind sure l = true ↔ Dec cl kind sure l := by
  unfold decB Dec
  simp only [Bool.and_eq_true, decide_eq_true_eq, Bool.or_eq_true, beq_iff_eq, Bool.not_eq_true']
/-- How many bytes the first piece has, and whether it is decided, or nothing comes behind. -/
def nx (cl : Int → Int) (may : Bool) (kind : Int) (f : Nat → Int) (n : Nat) (fin : Bool) : Nat × Bool :=
  if n = 0 ∨ may = false then (0, false)
  else if kind = 0 then (n, fin)
  else if kind = 1 ∨ kind = 2 ∨ kind = 3 then (next cl kind.toNat f n, fin || decB cl kind.toNat (sure f n) (pts f n))
  else (0, false)
theorem nx_none {cl : Int → Int} {may : Bool} {kind : Int} {f : Nat → Int} {n : Nat} {fin : Bool} (h : n = 0 ∨ may = false) : nx cl may kind f n fin = (0, false) := if_pos h
theorem nx_zero {cl : Int → Int} {may : Bool} {f : Nat → Int} {n : Nat} {fin : Bool} (h : ¬ (n = 0 ∨ may = false)) : nx cl may 0 f n fin = (n, fin) := by unfold nx; rw [if_neg h, if_pos rfl]
theorem nx_kind {cl : Int → Int} {may : Bool} {kind : Nat} {f : Nat → Int} {n : Nat} {fin : Bool} (h : ¬ (n = 0 ∨ may = false)) (hk : kind = 1 ∨ kind = 2 ∨ kind = 3) : nx cl may (kind : Int) f n fin = (next cl kind f n, fin || decB cl kind (sure f n) (pts f n)) := by
  unfold nx
  rw [if_neg h, if_neg (by omega), if_pos (by omega), Int.toNat_natCast]
theorem nx_odd {cl : Int → Int} {may : Bool} {kind : Int} {f : Nat → Int} {n : Nat} {fin : Bool} (h : ¬ (kind = 0 ∨ kind = 1 ∨ kind = 2 ∨ kind = 3)) : nx cl may kind f n fin = (0, false) := by
  unfold nx
  by_cases h0 : n = 0 ∨ may = false
  · rw [if_pos h0]
  · rw [if_neg h0, if_neg (by omega), if_neg (by omega)]
/-- A piece that is decided stays, whatever comes behind. -/
theorem nx_keeps {cl : Int → Int} (hr : ∀ p, 0 ≤ cl p ∧ cl p ≤ 4) {kind : Nat} (hk : kind ≤ 3) {f g : Nat → Int} {n m N : Nat} (hn : 0 < n) (hnm : n ≤ m) (hfg : ∀ i, i < n → f i = g i) (h : nx cl true kind f n false = (N, true)) (fin : Bool) : nx cl true kind g m fin = (N, true) := by
  have h0 : ¬ (n = 0 ∨ true = false) := fun e => e.elim (by omega) (fun e => by cases e)
  have h0m : ¬ (m = 0 ∨ true = false) := fun e => e.elim (by omega) (fun e => by cases e)
  by_cases hk0 : kind = 0
  · subst hk0
    have := (nx_zero (cl := cl) (f := f) (fin := false) h0).symm.trans h
    cases this
  · have hk' : kind = 1 ∨ kind = 2 ∨ kind = 3 := by omega
    rw [nx_kind h0 hk'] at h
    obtain ⟨hN, hd⟩ := Prod.mk.inj h
    rw [Bool.false_or] at hd
    obtain ⟨e1, e2⟩ := stays hr hk' hn hnm hfg (decB_iff.1 hd)
    rw [nx_kind h0m hk', e1, hN, decB_iff.2 e2, Bool.or_true]
end Sc
end Go.Proofs.YtiheagkgpbkkfaaDoor
