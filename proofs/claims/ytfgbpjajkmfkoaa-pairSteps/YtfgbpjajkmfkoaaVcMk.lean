/-
  Rows of values of one cell each, told by a function: 'make', reading, writing. No program is named here.
-/
import Derived.Test.YtfgbpjajkmfkoaaVcMath
import Derived.OwnWalk
namespace Go.Proofs.Ytfgbpjajkmfkoaa
open Go.RowKit

def vr (f : Nat → Value) (n : Nat) : List Value := (List.range n).map f
theorem vr_length (f : Nat → Value) (n : Nat) : (vr f n).length = n := by simp [vr]
theorem vr_get (f : Nat → Value) (n i : Nat) (h : i < n) : (vr f n)[i]? = some (f i) := by simp [vr, h]
def upd (f : Nat → Value) (i : Nat) (v : Value) : Nat → Value := fun k => if k = i then v else f k
theorem vr_set (f : Nat → Value) (n i : Nat) (v : Value) : (vr f n).set i v = vr (upd f i v) n := by
  apply List.ext_getElem?
  intro k
  by_cases hk : k < n
  · rw [vr_get _ _ _ hk, List.getElem?_set]
    by_cases h : i = k
    · subst h; simp [upd, vr_length, hk]
    · rw [if_neg h, vr_get _ _ _ hk]; simp [upd, Ne.symm h]
  · rw [List.getElem?_eq_none (by simp [vr_length]; omega), List.getElem?_eq_none (by simp [vr_length]; omega)]
/-- A row of n things in a block. -/
def Vr (w : World) (b n : Nat) (e : TypeId) (f : Nat → Value) : Prop := w.heap[b]? = some (.cells (vr f n).toArray e (0, 0))
section
variable {W W' : World} {b n : Nat} {e : TypeId} {f : Nat → Value}
theorem Vr.lt (h : Vr W b n e f) : b < W.heap.size := (Array.getElem?_eq_some_iff.1 h).1
theorem Vr.cell (h : Vr W b n e f) {i : Nat} (hi : i < n) : W.cell? ⟨b, i, none⟩ = some (f i) := by
  simp [World.cell?, show W.heap[b]? = _ from h, vr_get _ _ _ hi]
theorem Vr.fr (h : Vr W b n e f) (j : Nat) : W.frozen? ⟨b, j, none⟩ = false := by simp [World.frozen?, show W.heap[b]? = _ from h]
theorem Vr.below {N : Nat} (h : Vr W b n e f) (hb : Below N W W') (hn : b < N) : Vr W' b n e f := (hb.block b hn).trans h
theorem Vr.alloc (h : Vr W b n e f) (o : Obj) : Vr (W.alloc o) b n e f := (Below.heap_alloc _ _ _ h.lt).trans h
theorem Vr.drew (h : Vr W b n e f) : Vr W.drew b n e f := h
theorem Vr.mut {S : Nat → Prop} (h : Vr W b n e f) (hm : Mut S W W') (hn : ¬ S b) : Vr W' b n e f := (hm.block b h.lt hn).trans h
theorem Vr.other {D j : Nat} (h : Vr W b n e f) (hne : b ≠ D) (v : Value) : Vr (W.setCell ⟨D, j, none⟩ v) b n e f :=
  (Below.heap_setCell _ _ _ _ (by simpa using hne)).trans h
theorem Vr.set (h : Vr W b n e f) (i : Nat) (v : Value) : Vr (W.setCell ⟨b, i, none⟩ v) b n e (upd f i v) := by
  obtain ⟨hlt, hk⟩ := Array.getElem?_eq_some_iff.1 h
  unfold Vr
  rw [← vr_set]
  show (W.setCell ⟨b, i, none⟩ v).heap[b]? = _
  rw [World.setCell, Array.getElem?_modify, if_pos rfl, show W.heap[b]? = _ from h]
  simp
theorem Vr.congr {g : Nat → Value} (h : Vr W b n e f) (hg : ∀ i, i < n → f i = g i) : Vr W b n e g := by
  have : vr f n = vr g n := by
    unfold vr
    apply List.map_congr_left
    intro i hi
    exact hg i (List.mem_range.1 hi)
  unfold Vr at h ⊢
  rw [h, this]
end
theorem made_vr (z : Value) (hz : z.cells = #[z]) (n : Nat) : madeCells z.cells (n * 1) = (vr (fun _ => z) n).toArray := by
  apply Array.toList_inj.1
  have h : (madeCells z.cells (n * 1)).toList = List.replicate n z := by rw [Nat.mul_one, hz]; exact toList_madeCells_one _ n
  rw [h]
  apply List.ext_getElem?
  intro i
  by_cases hi : i < n
  · simp [hi, vr]
  · simp [hi, vr]
theorem run_make_vr {P : Program} (w : World) (z : Value) (t e : TypeId) (i : TypeInfo) (ht : P.underlying t = some (.slice e)) (hi : P.info? e = some i) (hz : i.zero = some z) (hc : z.cells = #[z]) (hsize : i.size = 1) (hby : i.bytes ≤ 16)
    (n : Nat) (hn : n ≤ 1048576) : (Instr.makeSlice t (.int .i64 (n : Int)) (.int .i64 (n : Int))).run P w = .ok (.slice (some ⟨w.heap.size, 0, none⟩) n n) (w.alloc (.cells (vr (fun _ => z) n).toArray e)) := by
  have hb : (i.bytes : Int) * (n : Int) ≤ 281474976710656 := by
    have h1 : i.bytes * n ≤ 16 * 1048576 := Nat.mul_le_mul hby hn
    have h2 : ((i.bytes * n : Nat) : Int) ≤ 281474976710656 := by omega
    rwa [Int.natCast_mul] at h2
  have hr := run_make (P := P) w t e i _ ht hi hz .i64 .i64 n n (by omega) (Int.le_refl _) hb (by omega)
  simp only [Int.toNat_natCast, hsize] at hr
  rw [hr, made_vr z hc]
theorem wpList_make_vr {P : Program} {w : World} {ops : Array Oper} {rest : List Oper} {o : Oper} {a : Act} {Q : Exit → Act → World → Prop} (hg : o.guard = none) (l c : Operand) (t : TypeId) (hop : o.op = Op.makeSlice t l c)
    (z : Value) (e : TypeId) (i : TypeInfo) (ht : P.underlying t = some (.slice e)) (hi : P.info? e = some i) (hz : i.zero = some z) (hzc : z.cells = #[z]) (hsize : i.size = 1) (hby : i.bytes ≤ 16)
    (n : Nat) (hn : n ≤ 1048576) (hl : a.eval l = .int .i64 (n : Int)) (hc : a.eval c = .int .i64 (n : Int))
    (hK : ∀ w', Hid (Vr w' w.heap.size n e (fun _ => z)) → Hid (Below w.heap.size w w') → Hid (w'.heap.size = w.heap.size + 1) → wpList P ops Q rest (a.put o.dst (.slice (some ⟨w.heap.size, 0, none⟩) n n)) w') : wpList P ops Q (o :: rest) a w := by
  refine wpList_plain hg fun K' hK' => ?_
  have hrun := run_make_vr (P := P) w z t e i ht hi hz hzc hsize hby n hn
  unfold Oper.wp
  simp [execOp, hop, hl, hc, hrun, Result.andThen]
  exact hK' _ _ (hK _ (hid (heap_alloc_new w _)) (hid ((Below.refl _ _).alloc (Nat.le_refl _) _)) (hid (by simp)))
end Go.Proofs.Ytfgbpjajkmfkoaa
