/-
  A block of two cells (a struct's), as it lies and as it is written. No program is named here.
-/
import Derived.Test.YthemaacfjmcbnaaBase
import Derived.RangeFuncBox
namespace Go.Proofs.Ythemaacfjmcbnaa
open Go.RowKit

def Bx2 (W : World) (B : Nat) (t : TypeId) (x y : Value) : Prop := W.heap[B]? = some (.cells #[x, y] t (0, 0))
section
variable {W : World} {B : Nat} {t : TypeId} {x y : Value}
theorem Bx2.lt (h : Bx2 W B t x y) : B < W.heap.size := (Array.getElem?_eq_some_iff.1 h).1
theorem Bx2.cell0 (h : Bx2 W B t x y) : W.cell? ⟨B, 0, none⟩ = some x := by simp [World.cell?, show W.heap[B]? = _ from h]
theorem Bx2.cell1 (h : Bx2 W B t x y) : W.cell? ⟨B, 1, none⟩ = some y := by simp [World.cell?, show W.heap[B]? = _ from h]
theorem Bx2.fr0 (h : Bx2 W B t x y) : W.frozen? ⟨B, 0, none⟩ = false := by simp [World.frozen?, show W.heap[B]? = _ from h]
theorem Bx2.fr1 (h : Bx2 W B t x y) : W.frozen? ⟨B, 1, none⟩ = false := by simp [World.frozen?, show W.heap[B]? = _ from h]
theorem Bx2.new (W : World) (t : TypeId) (x y : Value) : Bx2 (W.alloc (.cells #[x, y] t)) W.heap.size t x y := World.alloc_heap_new W _
theorem Bx2.below {W' : World} {n : Nat} (h : Bx2 W B t x y) (hb : Below n W W') (hn : B < n) : Bx2 W' B t x y := (hb.block B hn).trans h
theorem Bx2.alloc (h : Bx2 W B t x y) (o : Obj) : Bx2 (W.alloc o) B t x y := (Below.heap_alloc _ _ _ h.lt).trans h
theorem Bx2.set0 (h : Bx2 W B t x y) (x' : Value) : Bx2 (W.setCell ⟨B, 0, none⟩ x') B t x' y := by
  obtain ⟨hlt, hk⟩ := Array.getElem?_eq_some_iff.1 h
  show (W.heap.modify B _)[B]? = _
  rw [Array.getElem?_eq_getElem (by rw [Array.size_modify]; exact hlt), Array.getElem_modify_self, hk]
  rfl
theorem Bx2.set1 (h : Bx2 W B t x y) (y' : Value) : Bx2 (W.setCell ⟨B, 1, none⟩ y') B t x y' := by
  obtain ⟨hlt, hk⟩ := Array.getElem?_eq_some_iff.1 h
  show (W.heap.modify B _)[B]? = _
  rw [Array.getElem?_eq_getElem (by rw [Array.size_modify]; exact hlt), Array.getElem_modify_self, hk]
  rfl
/-- What a row of the call's own, of another kind, leaves of it. -/
theorem Bx2.kept {W' : World} {row : Option Nat} (h : Bx2 W B t x y) (hg : W.grownBy W' row) (hne : some B ≠ row) : Bx2 W' B t x y := (hg.block B h.lt hne).trans h
end
/-- Both cells of a new block written: old memory is as it was. -/
theorem below_two {w W : World} {n B : Nat} (h : Below n w W) (hB : n ≤ B) (x y : Value) : Below n w ((W.setCell ⟨B, 0, none⟩ x).setCell ⟨B, 1, none⟩ y) :=
  (h.setCell (p := ⟨B, 0, none⟩) hB x).setCell (p := ⟨B, 1, none⟩) hB y
theorem cell_alloc {W : World} {p : Addr} {v : Value} (h : W.cell? p = some v) (o : Obj) : (W.alloc o).cell? p = some v := by
  rw [((Below.refl W.heap.size W).alloc (Nat.le_refl _) o).cell (World.block_lt_of_cell? _ _ h)]
  exact h
theorem grown_setCell (W : World) (b o : Nat) (v : Value) : W.grownBy (W.setCell ⟨b, o, none⟩ v) (some b) :=
  ⟨rfl, rfl, rfl, (KeepsWalks.setCell W _ v).size, fun k _ hk => Below.heap_setCell _ _ _ k (fun e => hk (by rw [e]))⟩
/-- A row of the call's own over both writes into another block. -/
theorem own_two {W : World} {base : Nat} {e : TypeId} {size : Nat} {v : Value} {n B : Nat} {xs : List Value} (h : W.ownsRow base e size v n xs) (hB : B < base) (x y : Value) : ((W.setCell ⟨B, 0, none⟩ x).setCell ⟨B, 1, none⟩ y).ownsRow base e size v n xs :=
  have hne : v.ownBlock ≠ some B := fun e => by have := (h.lt B e).1; omega
  (h.kept (grown_setCell W B 0 x) (.inr hne)).kept (grown_setCell _ B 1 y) (.inr hne)
end Go.Proofs.Ythemaacfjmcbnaa
