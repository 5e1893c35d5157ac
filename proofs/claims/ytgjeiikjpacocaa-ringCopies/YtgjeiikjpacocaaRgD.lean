/-
  What is done to a ring and to the document's row: how 'does' leaves them.
-/
import Derived.Test.YtgjeiikjpacocaaRgS
import Derived.Test.YtgjeiikjpacocaaRrW2
import Derived.Test.YtgjeiikjpacocaaRrW3
namespace Go.Proofs.Ytgjeiikjpacocaa
open Go.RowKit RI
open Rr (row SkI cells_at kept_block alloc_block two_new)
set_option linter.unusedVariables false

abbrev opv (kind x N : Int) : Value := .agg #[.int .u8 kind, .int .i32 x, .int .i64 N]

/-- The ring and the row behind what was done: they say the same. -/
def DoesOut (w : World) (X : Nat → Prop) (B : Nat) (o : Option Nat) (room fr : Nat) (v : Value) (w' : World) : Prop :=
  ∃ o' fr' cnt' a' cap' f', v = row a' cnt' cap' (fr' : Nat) room ∧ RnI w' B o' room fr' cnt' f' ∧ SkI w' (fun k => X k ∨ own B o' k) a' cnt' cap' f' ∧ Mut (own B o) w w' ∧ (o' = o ∨ ∃ D', o' = some D' ∧ w.heap.size ≤ D') ∧ fr' ≤ fr + 1

/-- The three blocks that 'does' lays first. -/
theorem three_new (w : World) (o1 o2 o3 : Obj) : (((w.alloc o1).alloc o2).alloc o3).heap[w.heap.size]? = some o1 ∧ (((w.alloc o1).alloc o2).alloc o3).heap[w.heap.size + 1]? = some o2 ∧ (((w.alloc o1).alloc o2).alloc o3).heap[w.heap.size + 1 + 1]? = some o3 ∧ (((w.alloc o1).alloc o2).alloc o3).heap.size = w.heap.size + 3 ∧ Below w.heap.size w (((w.alloc o1).alloc o2).alloc o3) := by
  obtain ⟨h1, h2, h3, h4⟩ := two_new w o1 o2
  refine ⟨alloc_block h1, alloc_block h2, ?_, by simp, h4.alloc (by simp; omega) _⟩
  have := heap_alloc_new ((w.alloc o1).alloc o2) o3
  simpa using this

theorem three_keep (w1 : World) {b k j : Nat} {u0 u1 u2 : Value} (h : k ≠ b) : (((w1.setCell ⟨b, 0, none⟩ u0).setCell ⟨b, 1, none⟩ u1).setCell ⟨b, 2, none⟩ u2).cell? ⟨k, j, none⟩ = w1.cell? ⟨k, j, none⟩ :=
  World.cell?_of_block (show (((w1.setCell ⟨b, 0, none⟩ u0).setCell ⟨b, 1, none⟩ u1).setCell ⟨b, 2, none⟩ u2).heap[k]? = w1.heap[k]? by rw [set_row_other _ _ h, set_row_other _ _ h, set_row_other _ _ h])
/-- A block of the call's own, over what is done to the ring. -/
theorem Mut.keeps {S : Nat → Prop} {w w' : World} (h : Mut S w w') {b : Nat} {o : Obj} (hb : w.heap[b]? = some o) (hn : ¬ S b) : w'.heap[b]? = some o := (h.block b (Array.getElem?_eq_some_iff.1 hb).1 hn).trans hb
theorem below_keeps {w w' : World} (h : Below w.heap.size w w') {b : Nat} {o : Obj} (hb : w.heap[b]? = some o) : w'.heap[b]? = some o := (h.block b (Array.getElem?_eq_some_iff.1 hb).1).trans hb
/-- The blocks that must not be led to: given ones, and those of the call's own. -/
def xo (w : World) (X : Nat → Prop) : Nat → Prop := fun k => X k ∨ (w.heap.size ≤ k ∧ k < w.heap.size + 3)
theorem Sk.xo {w w0 : World} {K : IntKind} {X : Nat → Prop} {a : Option Addr} {n cap : Nat} {f : Nat → Int} (h : Sk w K X a n cap f) (hb : Below w.heap.size w w0) : Sk w0 K (xo w X) a n cap f :=
  (h.weaken (Y := Go.Proofs.Ytgjeiikjpacocaa.xo w X) (fun k hk e => e.elim id (fun e => by omega))).below hb

theorem does_end {w w2 w3 : World} {X : Nat → Prop} {B : Nat} {o o' : Option Nat} {room fr fr' cnt' : Nat} {a' : Option Addr} {cap' : Nat} {f' : Nat → Int} (hO : ∀ k, own B o k → X k) (hX : ∀ k, X k → k < w.heap.size)
    (S2 : SkI w2 (xo w X) a' cnt' cap' f') (R3 : RnI w3 B o' room fr' cnt' f') (M2 : Mut (own B o) w w2) (hs : w.heap.size + 3 ≤ w2.heap.size) (M3 : Mut (own B o) w2 w3) (ho : o' = o ∨ ∃ D', o' = some D' ∧ w2.heap.size ≤ D') (hfr : fr' ≤ fr + 1) (u0 u1 u2 : Value) :
    DoesOut w X B o room fr (row a' cnt' cap' (fr' : Nat) room) (((w3.setCell ⟨w.heap.size + 1 + 1, 0, none⟩ u0).setCell ⟨w.heap.size + 1 + 1, 1, none⟩ u1).setCell ⟨w.heap.size + 1 + 1, 2, none⟩ u2) := by
  have m : Mut (fun k => k = w.heap.size + 1 + 1) w3 (((w3.setCell ⟨w.heap.size + 1 + 1, 0, none⟩ u0).setCell ⟨w.heap.size + 1 + 1, 1, none⟩ u1).setCell ⟨w.heap.size + 1 + 1, 2, none⟩ u2) :=
    ((Mut.set w3 _ 0 u0 (S := fun k => k = w.heap.size + 1 + 1) rfl).trans (Mut.set _ _ 1 u1 (S := fun k => k = w.heap.size + 1 + 1) rfl) (fun _ _ e => e)).trans (Mut.set _ _ 2 u2 (S := fun k => k = w.heap.size + 1 + 1) rfl) (fun _ _ e => e)
  have hno : ∀ k, own B o' k → k ≠ w.heap.size + 1 + 1 := fun k hk e => by
    subst e
    rcases hk with hk | hk
    · have := hX _ (hO _ (.inl hk)); omega
    · rcases ho with rfl | ⟨D', rfl, hD⟩
      · have := hX _ (hO _ (.inr hk)); omega
      · cases hk; omega
  have s2 : SkI w2 (fun k => xo w X k ∨ own B o' k) a' cnt' cap' f' := S2.weaken (fun k hk e => e.elim id (fun e => by
    rcases e with e | e
    · exact .inl (hO k (.inl e))
    · rcases ho with rfl | ⟨D', rfl, hD⟩
      · exact .inl (hO k (.inr e))
      · cases e; omega))
  have s3 := (s2.kept M3 (fun k e => .inl (.inl (hO k e)))).kept m (fun k e => .inl (.inr (by subst e; omega)))
  refine ⟨o', fr', cnt', a', cap', f', rfl, R3.kept m (fun k hk e => hno k hk e), s3.weaken (fun k _ e => e.elim (fun e => .inl (.inl e)) .inr), (M2.trans M3 (fun _ _ e => e)).trans m (fun k hk e => by omega), ?_, hfr⟩
  rcases ho with h | ⟨D', h, hD⟩
  · exact .inl h
  · exact .inr ⟨D', h, by omega⟩
end Go.Proofs.Ytgjeiikjpacocaa
