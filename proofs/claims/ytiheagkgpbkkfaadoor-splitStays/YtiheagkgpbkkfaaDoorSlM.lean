/-
  A row of bytes that is made whole and then written, told by a function. No program is named here.
-/
import Derived.Test.YtiheagkgpbkkfaaDoorLotG
import Derived.OwnWalk
namespace Go.Proofs.YtiheagkgpbkkfaaDoor
open Go.RowKit
set_option linter.unusedVariables false
theorem made_vals (n : Nat) : madeCells (Value.int .u8 0).cells (n * 1) = (vals (fun _ => 0) n).toArray := by
  apply Array.toList_inj.1
  have h : (madeCells (Value.int .u8 0).cells (n * 1)).toList = List.replicate n (.int .u8 0) := by rw [Nat.mul_one]; exact toList_madeCells_one _ n
  rw [h]
  apply List.ext_getElem?
  intro i
  by_cases hi : i < n
  · simp [hi, vals]
  · simp [hi, vals]
theorem run_make_bytes {P : Program} (w : World) (t e : TypeId) (i : TypeInfo) (ht : P.underlying t = some (.slice e)) (hi : P.info? e = some i) (hz : i.zero = some (.int .u8 0)) (hsize : i.size = 1) (hby : i.bytes = 1)
    (n : Nat) (hn : n ≤ 1048576) : (Instr.makeSlice t (.int .i64 (n : Int)) (.int .i64 (n : Int))).run P w = .ok (.slice (some ⟨w.heap.size, 0, none⟩) n n) (w.alloc (.cells (vals (fun _ => 0) n).toArray e)) := by
  have hr := run_make (P := P) w t e i _ ht hi hz .i64 .i64 n n (by omega) (Int.le_refl _) (by rw [hby]; omega) (by omega)
  simp only [Int.toNat_natCast, hsize] at hr
  rw [hr, made_vals]
/-- A block that is a row of n bytes. -/
def Bw (w : World) (b n : Nat) (e : TypeId) (f : Nat → Int) : Prop := w.heap[b]? = some (.cells (vals f n).toArray e (0, 0))
section
variable {W W' : World} {b n : Nat} {e : TypeId} {f : Nat → Int}
theorem Bw.lt (h : Bw W b n e f) : b < W.heap.size := (Array.getElem?_eq_some_iff.1 h).1
theorem Bw.cell (h : Bw W b n e f) {i : Nat} (hi : i < n) : W.cell? ⟨b, i, none⟩ = some (.int .u8 (f i)) := by
  simp [World.cell?, show W.heap[b]? = _ from h, vals_get _ _ _ hi]
theorem Bw.fr (h : Bw W b n e f) (j : Nat) : W.frozen? ⟨b, j, none⟩ = false := by simp [World.frozen?, show W.heap[b]? = _ from h]
theorem vals_set (f : Nat → Int) (n i : Nat) (x : Int) : (vals f n).set i (.int .u8 x) = vals (fun k => if k = i then x else f k) n := by
  apply List.ext_getElem?
  intro k
  by_cases hk : k < n
  · rw [vals_get _ _ _ hk, List.getElem?_set]
    by_cases h : i = k
    · subst h; simp [vals_length, hk]
    · rw [if_neg h, vals_get _ _ _ hk, if_neg (Ne.symm h)]
  · rw [List.getElem?_eq_none (by simp [vals_length]; omega), List.getElem?_eq_none (by simp [vals_length]; omega)]
theorem Bw.set (h : Bw W b n e f) (i : Nat) (x : Int) : Bw (W.setCell ⟨b, i, none⟩ (.int .u8 x)) b n e (fun k => if k = i then x else f k) := by
  unfold Bw
  rw [← vals_set, World.setCell, Array.getElem?_modify, if_pos rfl, show W.heap[b]? = _ from h]
  simp
theorem Bw.congr {g : Nat → Int} (h : Bw W b n e f) (hg : ∀ i, i < n → f i = g i) : Bw W b n e g := by
  unfold Bw at h ⊢
  rw [h, vals_congr hg]
theorem Bw.sl (h : Bw W b n e f) (hn : n ≤ maxLen) (hb : ∀ i, 0 ≤ f i ∧ f i ≤ 255) : Sl W (some ⟨b, 0, none⟩) n n f :=
  ⟨Nat.le_refl _, hn, hb, fun e => absurd e (by simp), fun h0 => ⟨b, 0, rfl, h.lt, fun i hi => by rw [Nat.zero_add]; exact h.cell hi⟩⟩
end
end Go.Proofs.YtiheagkgpbkkfaaDoor
