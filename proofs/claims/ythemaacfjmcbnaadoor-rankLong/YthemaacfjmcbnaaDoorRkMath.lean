/-
  Files of ranks: what a line tells, and what a file does. Plain mathematics.
-/
import Derived.Test.YthemaacfjmcbnaaDoorLnR
import Derived.Test.YthemaacfjmcbnaaDoorLnNum
import Derived.Test.YthemaacfjmcbnaaDoorB6MathC
import Derived.Test.YthemaacfjmcbnaaDoorRk
namespace Go.Proofs.YthemaacfjmcbnaaDoor.Rk

def w0 (s : ByteArray) : ByteArray := at_ (wds s) 0
def w1 (s : ByteArray) : ByteArray := at_ (wds s) 1
/-- A line of the right form. -/
def Form (s : ByteArray) : Prop := (wds s).length = 2 ∧ B6.Good (bytesF (w0 s)) (w0 s).size ∧ Ln.Num (bytesF (w1 s)) (w1 s).size
/-- The token and the rank that a line tells. -/
def tok (s : ByteArray) : ByteArray := str (B6.decF (bytesF (w0 s))) (B6.decN (bytesF (w0 s)) (w0 s).size)
def num (s : ByteArray) : Int := Ln.vF (bytesF (w1 s)) (w1 s).size
def row (s : ByteArray) : ByteArray × Int := (tok s, num s)
theorem tok_size (s : ByteArray) : (tok s).size = B6.decN (bytesF (w0 s)) (w0 s).size := str_size _ _
/-- How a line is wrong. -/
def Er (s : ByteArray) (c : Int) : Prop := (¬ Form s ∧ c = 2) ∨ (Form s ∧ 64 < (tok s).size ∧ c = 7) ∨ (Form s ∧ (tok s).size ≤ 64 ∧ c = 0)
theorem Er.one {s : ByteArray} {c d : Int} (h : Er s c) (k : Er s d) : c = d := by
  rcases h with ⟨h1, h2⟩ | ⟨h1, h2, h3⟩ | ⟨h1, h2, h3⟩ <;> rcases k with ⟨k1, k2⟩ | ⟨k1, k2, k3⟩ | ⟨k1, k2, k3⟩
  all_goals first | exact absurd k1 h1 | exact absurd h1 k1 | omega
theorem Er.ok {s : ByteArray} (h : Er s 0) : Form s ∧ (tok s).size ≤ 64 := by
  rcases h with ⟨_, h⟩ | ⟨_, _, h⟩ | ⟨h, h2, _⟩
  · omega
  · omega
  · exact ⟨h, h2⟩
/-- What a file of these lines is read as. -/
def FileIs (ls : List ByteArray) (rows : List (ByteArray × Int)) (line err : Int) : Prop :=
  ((∀ i, i < ls.length → Er (at_ ls i) 0) ∧ rows = ls.map row ∧ line = 0 ∧ err = 0) ∨
  (∃ i, i < ls.length ∧ (∀ j, j < i → Er (at_ ls j) 0) ∧ Er (at_ ls i) err ∧ err ≠ 0 ∧ rows = [] ∧ line = (i : Int) + 1)
theorem FileIs.one {ls : List ByteArray} {r r' : List (ByteArray × Int)} {l l' e e' : Int} (h : FileIs ls r l e) (k : FileIs ls r' l' e') : r = r' ∧ l = l' ∧ e = e' := by
  rcases h with ⟨h1, h2, h3, h4⟩ | ⟨i, h1, h2, h3, h4, h5, h6⟩ <;> rcases k with ⟨k1, k2, k3, k4⟩ | ⟨j, k1, k2, k3, k4, k5, k6⟩
  · exact ⟨by rw [h2, k2], by omega, by omega⟩
  · exact absurd ((h1 j k1).one k3) (fun e => k4 e.symm)
  · exact absurd ((k1 i h1).one h3) (fun e => h4 e.symm)
  · have hij : i = j := by
      rcases Nat.lt_trichotomy i j with h | h | h
      · exact absurd ((k2 i h).one h3) (fun e => h4 e.symm)
      · exact h
      · exact absurd ((h2 j h).one k3) (fun e => k4 e.symm)
    subst hij
    exact ⟨by rw [h5, k5], by omega, h3.one k3⟩

theorem FileIs.len {ls : List ByteArray} {r : List (ByteArray × Int)} {l e : Int} (h : FileIs ls r l e) : r.length ≤ ls.length := by
  rcases h with ⟨_, h, _⟩ | ⟨_, _, _, _, _, h, _⟩
  · rw [h, List.length_map]; exact Nat.le_refl _
  · rw [h]; exact Nat.zero_le _
theorem take_row {ls : List ByteArray} {j : Nat} {s : ByteArray} (h : j < ls.length) (hs : at_ ls j = s) : (ls.map row).take (j + 1) = (ls.map row).take j ++ [(tok s, num s)] := by
  have hg : ls[j]? = some s := by
    unfold at_ at hs
    rw [List.getD_eq_getElem?_getD, List.getElem?_eq_getElem h] at hs
    rw [List.getElem?_eq_getElem h]
    exact congrArg some hs
  rw [List.take_add_one, List.getElem?_map, hg]
  rfl

/-! ### How long words are -/
theorem pcs_le (c : UInt8) : ∀ (l acc x : List UInt8), x ∈ Ln.pcs c acc l → x.length ≤ acc.length + l.length
  | [], acc, x, h => by simp [Ln.pcs] at h; subst h; simp
  | b :: r, acc, x, h => by
    unfold Ln.pcs at h
    split at h
    · rcases List.mem_cons.1 h with rfl | h
      · simp
      · have := pcs_le c r [] x h
        simp at this ⊢; omega
    · have := pcs_le c r (acc ++ [b]) x h
      simp at this ⊢; omega
theorem at_mem {xs : List ByteArray} {i : Nat} (h : i < xs.length) : at_ xs i ∈ xs := by
  unfold at_
  rw [List.getD_eq_getElem?_getD, List.getElem?_eq_getElem h]
  exact List.getElem_mem h
theorem ps_le {c : UInt8} {s x : ByteArray} (h : x ∈ ps c s) : x.size ≤ s.size := by
  obtain ⟨y, hy, rfl⟩ := List.mem_map.1 h
  have := pcs_le c (by_ s) [] y hy
  rw [by_length] at this
  rw [mk_size]
  simpa using this
theorem wds_le {s : ByteArray} {i : Nat} : (at_ (wds s) i).size ≤ s.size := by
  by_cases h : i < (wds s).length
  · have hm := at_mem h
    obtain ⟨y, hy, e⟩ := List.mem_map.1 hm
    rw [← e, mk_size]
    unfold Ln.words at hy
    split at hy
    · simp at hy
    · have := pcs_le 32 (by_ s) [] y hy
      rw [by_length] at this
      simpa using this
  · unfold at_
    rw [List.getD_eq_getElem?_getD, List.getElem?_eq_none (by omega)]
    exact Nat.zero_le _
theorem lns_le {s : ByteArray} {i : Nat} : (at_ (lns s) i).size ≤ s.size := by
  by_cases h : i < (lns s).length
  · have hm := at_mem h
    obtain ⟨y, hy, e⟩ := List.mem_map.1 hm
    rw [← e, mk_size]
    unfold Ln.lines at hy
    split at hy
    · simp at hy
    · have h1 := pcs_le 10 _ [] y hy
      have h2 : (Ln.trim (by_ s)).length ≤ (by_ s).length := by
        unfold Ln.trim
        split
        · simp
        · exact Nat.le_refl _
      rw [by_length] at h2
      simp at h1
      omega
  · unfold at_
    rw [List.getD_eq_getElem?_getD, List.getElem?_eq_none (by omega)]
    exact Nat.zero_le _
end Go.Proofs.YthemaacfjmcbnaaDoor.Rk
