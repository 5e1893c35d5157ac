/-
  Files of tables, cut behind a line. Plain mathematics.
-/
import Derived.Test.YtecbmonbeogdjaaDoorMgFile
namespace Go.Proofs.YtecbmonbeogdjaaDoor.Mg

theorem count_no {l : List UInt8} (h : NoLF l) : l.count 10 = 0 := by
  rw [List.count_eq_zero]
  exact fun hm => h 10 hm rfl
theorem count_fileOf : ∀ {ls : List (List UInt8)}, (∀ l ∈ ls, NoLF l) → (fileOf ls).count 10 = ls.length
  | [], _ => rfl
  | l :: ls, h => by
    rw [fileOf_cons, List.count_append, List.count_cons_self, count_no (h l (by simp)), count_fileOf (fun x hx => h x (by simp [hx])), List.length_cons]
    omega
/-- The file of the first k + 1 lines: k line feeds, and one at the end. -/
theorem cut_at {L : List (List UInt8)} (h : ∀ l ∈ L, NoLF l) {k : Nat} (hk : k < L.length) :
    ∃ A' Z : List UInt8, fileOf (L.take (k + 1)) = A' ++ [10] ∧ A'.count 10 = k ∧ fileOf L = (A' ++ [10]) ++ Z := by
  refine ⟨fileOf (L.take k) ++ L[k], fileOf (L.drop (k + 1)), ?_, ?_, ?_⟩
  · rw [List.take_add_one, List.getElem?_eq_getElem hk, fileOf_app]
    simp [fileOf]
  · rw [List.count_append, count_fileOf (fun l hl => h l (List.mem_of_mem_take hl)), count_no (h _ (List.getElem_mem hk)), List.length_take]
    omega
  · have e : fileOf (L.take (k + 1)) = (fileOf (L.take k) ++ L[k]) ++ [10] := by
      rw [List.take_add_one, List.getElem?_eq_getElem hk, fileOf_app]
      simp [fileOf]
    rw [← e, ← fileOf_app, List.take_append_drop]
/-- How many line feeds stand in the first i bytes. -/
def lfs (A : List UInt8) (i : Nat) : Nat := (A.take i).count 10
theorem lfs_le {A' : List UInt8} {i : Nat} (hi : i ≤ A'.length) : lfs (A' ++ [10]) i ≤ A'.count 10 := by
  unfold lfs
  rw [List.take_append_of_le_length hi]
  exact (List.take_sublist i A').count_le 10
theorem lfs_all (A' : List UInt8) : lfs (A' ++ [10]) (A'.length + 1) = A'.count 10 + 1 := by
  unfold lfs
  rw [List.take_of_length_le (by simp), List.count_append]
  rfl
theorem lfs_step {A : List UInt8} {i : Nat} (hi : i < A.length) : lfs A (i + 1) = lfs A i + (if A.getD i 0 = 10 then 1 else 0) := by
  unfold lfs
  rw [List.take_add_one, List.getElem?_eq_getElem hi, List.count_append, List.getD_eq_getElem?_getD, List.getElem?_eq_getElem hi]
  simp [List.count_singleton]
theorem linesL_length (rs : Rows) (ps : Prs) : (linesL rs ps).length = rs.length + ps.length + 2 := by
  unfold linesL
  simp
  omega
theorem take_short {rs : Rows} {ps : Prs} {k : Nat} (hk : k ≤ rs.length) : (linesL rs ps).take (k + 1) = lv :: (rs.take k).map rowL := by
  unfold linesL
  rw [List.take_succ_cons, List.take_append_of_le_length (by simpa using hk), List.map_take]
theorem take_long {rs : Rows} {ps : Prs} {q : Nat} : (linesL rs ps).take (rs.length + 1 + q + 1) = linesL rs (ps.take q) := by
  unfold linesL
  rw [List.take_succ_cons, List.take_append, List.take_of_length_le (by simp; omega), List.length_map, show rs.length + 1 + q - rs.length = q + 1 by omega, List.take_succ_cons, List.map_take]
theorem gF_app {A Z : List UInt8} {i : Nat} (hi : i < A.length) : Ln.gF (A ++ Z) i = (A.getD i 0).toNat := by
  unfold Ln.gF
  rw [List.getD_eq_getElem?_getD, List.getElem?_append_left hi, List.getD_eq_getElem?_getD]
theorem str_first {A Z : List UInt8} : str (bytesF (mk (A ++ Z))) A.length = mk A := by
  have h := (St.any (mk A)).eq_str
  rw [mk_size] at h
  rw [h]
  refine str_congr fun i hi => ?_
  rw [Rk.bytes_mk, Rk.bytes_mk, gF_app hi]
  rfl
end Go.Proofs.YtecbmonbeogdjaaDoor.Mg
