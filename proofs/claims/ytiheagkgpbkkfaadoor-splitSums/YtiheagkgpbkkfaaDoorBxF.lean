/-
  A block of four cells (a struct's), as it lies and as it is written; rows of the call's own over writes into other blocks. No program is named here.
-/
import Derived.Test.YtiheagkgpbkkfaaDoorLotG
import Derived.RangeFuncBox
namespace Go.Proofs.YtiheagkgpbkkfaaDoor
open Go.RowKit

theorem grown_setCell (W : World) (b o : Nat) (v : Value) : W.grownBy (W.setCell ⟨b, o, none⟩ v) (some b) :=
  ⟨rfl, rfl, rfl, (KeepsWalks.setCell W _ v).size, fun k _ hk => Below.heap_setCell _ _ _ k (fun e => hk (by rw [e]))⟩
def Bx4 (W : World) (B : Nat) (t : TypeId) (x y z u : Value) : Prop := W.heap[B]? = some (.cells #[x, y, z, u] t (0, 0))
section
variable {W : World} {B : Nat} {t : TypeId} {x y z u : Value}
theorem Bx4.lt (h : Bx4 W B t x y z u) : B < W.heap.size := (Array.getElem?_eq_some_iff.1 h).1
theorem Bx4.cell0 (h : Bx4 W B t x y z u) : W.cell? ⟨B, 0, none⟩ = some x := by simp [World.cell?, show W.heap[B]? = _ from h]
theorem Bx4.cell1 (h : Bx4 W B t x y z u) : W.cell? ⟨B, 1, none⟩ = some y := by simp [World.cell?, show W.heap[B]? = _ from h]
theorem Bx4.cell2 (h : Bx4 W B t x y z u) : W.cell? ⟨B, 2, none⟩ = some z := by simp [World.cell?, show W.heap[B]? = _ from h]
theorem Bx4.cell3 (h : Bx4 W B t x y z u) : W.cell? ⟨B, 3, none⟩ = some u := by simp [World.cell?, show W.heap[B]? = _ from h]
theorem Bx4.fr (h : Bx4 W B t x y z u) (j : Nat) : W.frozen? ⟨B, j, none⟩ = false := by simp [World.frozen?, show W.heap[B]? = _ from h]
theorem Bx4.new (W : World) (t : TypeId) (x y z u : Value) : Bx4 (W.alloc (.cells #[x, y, z, u] t)) W.heap.size t x y z u := World.alloc_heap_new W _
theorem Bx4.below {W' : World} {n : Nat} (h : Bx4 W B t x y z u) (hb : Below n W W') (hn : B < n) : Bx4 W' B t x y z u := (hb.block B hn).trans h
theorem Bx4.alloc (h : Bx4 W B t x y z u) (o : Obj) : Bx4 (W.alloc o) B t x y z u := (Below.heap_alloc _ _ _ h.lt).trans h
theorem Bx4.mut {W' : World} {S : Nat → Prop} (h : Bx4 W B t x y z u) (hm : Mut S W W') (hn : ¬ S B) : Bx4 W' B t x y z u := (hm.block B h.lt hn).trans h
theorem Bx4.kept {W' : World} {row : Option Nat} (h : Bx4 W B t x y z u) (hg : W.grownBy W' row) (hne : some B ≠ row) : Bx4 W' B t x y z u := (hg.block B h.lt hne).trans h
theorem Bx4.set0 (h : Bx4 W B t x y z u) (v : Value) : Bx4 (W.setCell ⟨B, 0, none⟩ v) B t v y z u := by
  obtain ⟨hlt, hk⟩ := Array.getElem?_eq_some_iff.1 h
  show (W.heap.modify B _)[B]? = _
  rw [Array.getElem?_eq_getElem (by rw [Array.size_modify]; exact hlt), Array.getElem_modify_self, hk]
  rfl
theorem Bx4.set1 (h : Bx4 W B t x y z u) (v : Value) : Bx4 (W.setCell ⟨B, 1, none⟩ v) B t x v z u := by
  obtain ⟨hlt, hk⟩ := Array.getElem?_eq_some_iff.1 h
  show (W.heap.modify B _)[B]? = _
  rw [Array.getElem?_eq_getElem (by rw [Array.size_modify]; exact hlt), Array.getElem_modify_self, hk]
  rfl
theorem Bx4.set2 (h : Bx4 W B t x y z u) (v : Value) : Bx4 (W.setCell ⟨B, 2, none⟩ v) B t x y v u := by
  obtain ⟨hlt, hk⟩ := Array.getElem?_eq_some_iff.1 h
  show (W.heap.modify B _)[B]? = _
  rw [Array.getElem?_eq_getElem (by rw [Array.size_modify]; exact hlt), Array.getElem_modify_self, hk]
  rfl
theorem Bx4.set3 (h : Bx4 W B t x y z u) (v : Value) : Bx4 (W.setCell ⟨B, 3, none⟩ v) B t x y z v := by
  obtain ⟨hlt, hk⟩ := Array.getElem?_eq_some_iff.1 h
  show (W.heap.modify B _)[B]? = _
  rw [Array.getElem?_eq_getElem (by rw [Array.size_modify]; exact hlt), Array.getElem_modify_self, hk]
  rfl
end
theorem Bx4.drew {W : World} {B : Nat} {t : TypeId} {x y z u : Value} (h : Bx4 W B t x y z u) : Bx4 W.drew B t x y z u := h
/-- A row of the call's own over a write into another block. -/
theorem own_set {W : World} {base : Nat} {e : TypeId} {size : Nat} {v : Value} {n B j : Nat} {xs : List Value} (h : W.ownsRow base e size v n xs) (hB : v.ownBlock ≠ some B) (x : Value) : (W.setCell ⟨B, j, none⟩ x).ownsRow base e size v n xs :=
  h.kept (grown_setCell W B j x) (.inr hB)
theorem own_block {W : World} {base : Nat} {e : TypeId} {size : Nat} {v : Value} {n B : Nat} {xs : List Value} (h : W.ownsRow base e size v n xs) (hB : B < base) : v.ownBlock ≠ some B := fun e => by have := (h.lt B e).1; omega
theorem own_mut {W W' : World} {S : Nat → Prop} {base : Nat} {e : TypeId} {size : Nat} {v : Value} {n : Nat} {xs : List Value} (h : W.ownsRow base e size v n xs) (hm : Mut S W W') (hn : ∀ k, v.ownBlock = some k → ¬ S k) : W'.ownsRow base e size v n xs := by
  refine ⟨h.1, ?_⟩
  rcases h.2 with q | ⟨g, cap, cur, hv, hB, hg, rest⟩
  · exact .inl q
  · refine .inr ⟨g, cap, cur, hv, hB, ?_, rest⟩
    rw [hm.block g (Array.getElem?_eq_some_iff.1 hg).1 (hn g (by rw [hv]; rfl))]
    exact hg
/-- The frame of an append to a row of the call's own above M. -/
theorem Mut.grown {S : Nat → Prop} {a b c : World} {row : Option Nat} (h : Mut S a b) (hg : b.grownBy c row) (hr : ∀ k, row = some k → S k) : Mut S a c :=
  ⟨hg.os.trans h.os, hg.tape.trans h.tape, hg.output.trans h.output, Nat.le_trans h.size hg.size, fun k hk hn => (hg.block k (Nat.lt_of_lt_of_le hk h.size) (fun e => hn (hr k e.symm))).trans (h.block k hk hn)⟩
theorem Mut.alloc {S : Nat → Prop} {a b : World} (h : Mut S a b) (o : Obj) : Mut S a (b.alloc o) :=
  h.trans (Mut.ofBelow ((Below.refl _ b).alloc (Nat.le_refl _) o) S) (fun _ _ e => e)
theorem Mut.setCell {S : Nat → Prop} {a b : World} (h : Mut S a b) (B j : Nat) (v : Value) (hB : S B) : Mut S a (b.setCell ⟨B, j, none⟩ v) :=
  h.trans (Mut.set b B j v (S := S) hB) (fun _ _ e => e)
theorem Mut.drew {S : Nat → Prop} {a b : World} (h : Mut S a b) : Mut S a b.drew := h.trans (Mut.ofBelow (Below.refl _ b).drew S) (fun _ _ e => e)
theorem Mut.then_below {S : Nat → Prop} {a b c : World} (h : Mut S a b) (k : Below b.heap.size b c) : Mut S a c := h.trans (Mut.ofBelow k S) (fun _ _ e => e)

end Go.Proofs.YtiheagkgpbkkfaaDoor
