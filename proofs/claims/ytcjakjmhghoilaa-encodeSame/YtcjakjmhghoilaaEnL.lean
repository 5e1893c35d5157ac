/-
  Bytes in memory as lists: cut, and one by one. No program is named here.
-/
import Derived.Test.YtcjakjmhghoilaaEnZ
namespace Go.Proofs.Ytcjakjmhghoilaa
open Go.RowKit
set_option linter.unusedVariables false
theorem by_str (f : Nat → Int) (n : Nat) : by_ (str f n) = (List.range n).map (fun i => UInt8.ofNat (f i).toNat) := by
  unfold str by_ strOfNums
  simp
theorem by_str_at {f : Nat → Int} {n i : Nat} (h : i < n) : (by_ (str f n))[i]? = some (UInt8.ofNat (f i).toNat) := by
  rw [by_str]
  simp [h]
theorem str_one (f : Nat → Int) : str f 1 = mk [UInt8.ofNat (f 0).toNat] := by
  apply by_inj
  rw [by_str, by_mk]
  rfl
theorem by_str_take (f : Nat → Int) {m n : Nat} (h : m ≤ n) : by_ (str f m) = (by_ (str f n)).take m := by
  rw [by_str, by_str, ← List.map_take, List.take_range, Nat.min_eq_left h]
theorem by_str_drop (f : Nat → Int) {m n : Nat} (h : m ≤ n) : by_ (str (fun q => f (m + q)) (n - m)) = (by_ (str f n)).drop m := by
  apply List.ext_getElem?
  intro i
  rw [List.getElem?_drop]
  by_cases hi : i < n - m
  · rw [by_str_at hi, by_str_at (by omega)]
  · rw [List.getElem?_eq_none (by rw [by_length, str_size]; omega), List.getElem?_eq_none (by rw [by_length, str_size]; omega)]
end Go.Proofs.Ytcjakjmhghoilaa
