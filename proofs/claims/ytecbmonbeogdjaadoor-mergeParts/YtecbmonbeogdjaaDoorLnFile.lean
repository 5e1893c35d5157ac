/-
  Bytes as lists, lines without line feeds, bytes as values. Plain mathematics.
-/
import Derived.Test.YtecbmonbeogdjaaDoorLotB
import Derived.Test.YtecbmonbeogdjaaDoorRk
import Derived.Lib.AppendStr
namespace Go.Proofs.YtecbmonbeogdjaaDoor.Rk
open Go.Lib (decDigits itoa)

theorem bytes_mk (l : List UInt8) : bytesF (mk l) = Ln.gF l := by
  funext i
  unfold bytesF Ln.gF mk
  simp [Array.getD_eq_getD_getElem?]
theorem bytes_st {s : ByteArray} {n : Nat} {f : Nat → Int} (h : St s n f) : ∀ i, i < n → bytesF s i = f i := fun i hi => by
  have := (St.any s).same h
  exact this.2 i (by omega)
theorem mem_at {l : List UInt8} {b : UInt8} (h : b ∈ l) : ∃ i, i < l.length ∧ Ln.gF l i = b.toNat := by
  obtain ⟨i, hi, e⟩ := List.mem_iff_getElem.1 h
  exact ⟨i, hi, by unfold Ln.gF; rw [List.getD_eq_getElem?_getD, List.getElem?_eq_getElem hi, e]; rfl⟩
theorem itoa_mem {k : Int} (h0 : 0 ≤ k) (h1 : k ≤ 9999999) {b : UInt8} (h : b ∈ itoa k) : 48 ≤ b.toNat := by
  obtain ⟨i, hi, e⟩ := mem_at h
  have := ((Ln.num_itoa h0 h1).1.2.2.2 i hi).1
  omega
theorem ne_of {b : UInt8} {c : UInt8} (h : c.toNat < b.toNat) : b ≠ c := by rintro rfl; omega
theorem pcs_none {c : UInt8} : ∀ {l acc : List UInt8}, (∀ b ∈ l, b ≠ c) → Ln.pcs c acc l = [acc ++ l]
  | [], acc, _ => by simp [Ln.pcs]
  | b :: r, acc, h => by
    rw [Ln.pcs_miss (h b (by simp)), pcs_none (fun x hx => h x (by simp [hx]))]
    simp

theorem lines_wrong {l r : List UInt8} (h : ∀ b ∈ l, b ≠ 10) : Ln.lines (l ++ 10 :: r) = l :: Ln.lines r := by
  rw [Ln.lines_join, ← Ln.lines_all, pcs_none h]
  rfl
theorem lines_one {l : List UInt8} (h : ∀ b ∈ l, b ≠ 10) (h0 : l ≠ []) : Ln.lines l = [l] := by
  have h1 := Ln.lines_all l
  rw [pcs_none h, Ln.gap, if_neg, List.append_nil] at h1
  · rw [← h1]; rfl
  · rintro (e | e)
    · exact h0 e
    · exact h 10 (List.mem_of_getLast? e) rfl
theorem take_snoc {xs : List (ByteArray × Int)} {j : Nat} (h : j < xs.length) {t : ByteArray} {k : Int} (ht : tat xs j = t) (hk : kat xs j = k) : xs.take (j + 1) = xs.take j ++ [(t, k)] := by
  subst ht hk
  unfold tat kat
  rw [List.take_add_one, List.getD_eq_getElem?_getD, List.getElem?_eq_getElem h]
  rfl
/-! ### Bytes as values -/
def bv (l : List UInt8) : List Value := l.map fun b => Value.int .u8 b.toNat
theorem bv_append (a b : List UInt8) : bv a ++ bv b = bv (a ++ b) := by simp [bv]
theorem bv_str (l : List UInt8) : Go.Lib.strCells (mk l) = bv l := rfl
theorem bv_vals (l : List UInt8) : bv l = vals (bytesF (mk l)) l.length := by
  rw [bytes_mk]
  apply List.ext_getElem
  · rw [vals_length]; simp [bv]
  · intro i h1 h2
    have hi : i < l.length := by simpa [bv] using h1
    simp [bv, vals, Ln.gF, hi]
end Go.Proofs.YtecbmonbeogdjaaDoor.Rk
