/-
  What the chapter says of vocabularies, in plain mathematics: which may be. No program is named here.
-/
import Derived.Test.YtfgbpjajkmfkoaaVc
namespace Go.Proofs.Ytfgbpjajkmfkoaa
open Go.RowKit

theorem ba_empty {s : ByteArray} (h : s.size = 0) : s.toList.isEmpty = true ∧ s.toList = [] := by
  have : s.toList = [] := List.eq_nil_of_length_eq_zero (by rw [by_toList, by_length]; exact h)
  exact ⟨by rw [this]; rfl, this⟩
theorem ba_full {s : ByteArray} (h : s.size ≠ 0) : s.toList.isEmpty = false ∧ ¬ s.toList = [] := by
  have : ¬ s.toList = [] := fun e => h (by rw [← by_length, ← by_toList, e]; rfl)
  exact ⟨by simpa using this, this⟩
theorem ba_nil {s : ByteArray} (h : s.size = 0) : s = ⟨#[]⟩ := by
  apply by_inj
  have : (by_ s).length = 0 := by rw [by_length]; exact h
  rw [List.eq_nil_of_length_eq_zero this]; rfl
theorem ba_eq {s t : ByteArray} (h : s.toList = t.toList) : s = t := by
  rw [by_toList, by_toList] at h; exact by_inj h

namespace Vc
abbrev Toks := List ByteArray
abbrev Sps := List (ByteArray × Int)
/-- The number of a token that isn't empty. -/
def Is (ts : Toks) (k : Int) : Prop := 0 ≤ k ∧ k < ts.length ∧ (at_ ts k.toNat).size ≠ 0
def tok (ts : Toks) (k : Int) : ByteArray := at_ ts k.toNat
/-- The place of an empty token. -/
def Emp (ts : Toks) (k : Int) : Prop := 0 ≤ k ∧ k < ts.length ∧ (at_ ts k.toNat).size = 0
/-- A number that may be. -/
def Num (k : Int) : Prop := 0 ≤ k ∧ k < 4096
/-- A byte alone. -/
def one (b : Nat) : ByteArray := mk [UInt8.ofNat b]
/-- Rule 1. -/
structure MayT (ts : Toks) : Prop where
  len : ts.length ≤ 4096
  sz : ∀ i, i < ts.length → (at_ ts i).size ≤ 64
  apart : ∀ i j, i < ts.length → j < ts.length → (at_ ts i).size ≠ 0 → at_ ts i = at_ ts j → i = j
  all : ∀ b, b < 256 → ∃ i, i < ts.length ∧ at_ ts i = one b
/-- A merge, for itself. -/
def OkM (ts : Toks) (m : Mg4) : Prop := Is ts m.1 ∧ Is ts m.2.1 ∧ Is ts m.2.2.1 ∧ tok ts m.2.2.1 = tok ts m.1 ++ tok ts m.2.1 ∧ 0 ≤ m.2.2.2 ∧ m.2.2.2 ≤ 1048576
/-- One merge ahead of another one. -/
def Ahead (a b : Mg4) : Prop := a.2.2.2 < b.2.2.2 ∨ (a.2.2.2 = b.2.2.2 ∧ (a.1 < b.1 ∨ (a.1 = b.1 ∧ a.2.1 < b.2.1)))
/-- Two merges beside each other. -/
def Both (a b : Mg4) : Prop := Ahead a b ∧ ¬ (a.1 = b.1 ∧ a.2.1 = b.2.1) ∧ (a.2.2.2 = b.2.2.2 → a.2.2.1 = b.2.2.1)
/-- A merge that may stand right behind another one. -/
def Fol (a b : Mg4) : Prop := Ahead a b ∧ (a.2.2.2 = b.2.2.2 → a.2.2.1 = b.2.2.1)
/-- Rule 2. -/
structure MayM (ts : Toks) (ms : List Mg4) : Prop where
  len : ms.length ≤ 16384
  ok : ∀ i, i < ms.length → OkM ts (mat ms i)
  both : ∀ i j, i < j → j < ms.length → Both (mat ms i) (mat ms j)
/-- Rule 3. -/
def Made (ts : Toks) (ms : List Mg4) : Prop := ∀ i, i < ts.length → (at_ ts i).size < 2 ∨ ∃ k, k < ms.length ∧ (mat ms k).2.2.1 = i
def SignOk (x : Int) : Prop := (97 ≤ x ∧ x ≤ 122) ∨ (48 ≤ x ∧ x ≤ 57) ∨ x = 95
def NameOk (s : ByteArray) : Prop := 1 ≤ s.size ∧ s.size ≤ 24 ∧ ∀ i, i < s.size → SignOk (bytesF s i)
def NLt (a b : ByteArray) : Prop := by_ a < by_ b
/-- Rule 4. -/
structure MayS (ts : Toks) (sp : Sps) : Prop where
  len : sp.length ≤ 16
  ok : ∀ i, i < sp.length → NameOk (tat sp i) ∧ Emp ts (kat sp i)
  both : ∀ i j, i < j → j < sp.length → NLt (tat sp i) (tat sp j) ∧ kat sp i ≠ kat sp j
structure May (ts : Toks) (ms : List Mg4) (sp : Sps) : Prop where
  T : MayT ts
  M : MayM ts ms
  O : Made ts ms
  S : MayS ts sp

/-! ### How merges are compared -/
def orI (a b : Int) : Int := if a = 0 then b else a
def cmpI (x y : Int) : Int := if x < y then -1 else if y < x then 1 else 0
def cmp (a b : Mg4) : Int := orI (cmpI a.2.2.2 b.2.2.2) (orI (cmpI a.1 b.1) (cmpI a.2.1 b.2.1))
theorem cmpI_lt (x y : Int) : cmpI x y < 0 ↔ x < y := by
  unfold cmpI
  by_cases h : x < y
  · simp [h]
  · by_cases k : y < x <;> simp [h, k]
theorem cmpI_eq (x y : Int) : cmpI x y = 0 ↔ x = y := by
  unfold cmpI
  by_cases h : x < y
  · simp [h]; omega
  · by_cases k : y < x <;> simp [h, k] <;> omega
theorem orI_lt (a b : Int) : orI a b < 0 ↔ a < 0 ∨ (a = 0 ∧ b < 0) := by
  unfold orI
  by_cases h : a = 0 <;> simp [h]
theorem cmp_lt (a b : Mg4) : cmp a b < 0 ↔ Ahead a b := by
  unfold cmp Ahead
  rw [orI_lt, orI_lt, cmpI_lt, cmpI_lt, cmpI_lt, cmpI_eq, cmpI_eq]
theorem Ahead.trans {a b c : Mg4} (h : Ahead a b) (k : Ahead b c) : Ahead a c := by unfold Ahead at *; omega
theorem Ahead.irrefl (a : Mg4) : ¬ Ahead a a := by unfold Ahead; omega
theorem Ahead.total (a b : Mg4) : Ahead a b ∨ Ahead b a ∨ (a.1 = b.1 ∧ a.2.1 = b.2.1 ∧ a.2.2.2 = b.2.2.2) := by unfold Ahead; omega
end Vc
end Go.Proofs.Ytfgbpjajkmfkoaa
