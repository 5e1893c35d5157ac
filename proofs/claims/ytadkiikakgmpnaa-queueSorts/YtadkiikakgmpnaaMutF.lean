/-
  What a call that writes into some blocks alone leaves as it was. No program is named here.
-/
import Derived.Test.YtadkiikakgmpnaaOwn
import Derived.WalkSmall
namespace Go.Proofs.Ytadkiikakgmpnaa
open Go.RowKit

/-- But for the blocks in S the world w' is as w was, as far as w went. -/
structure Mut (S : Nat → Prop) (w w' : World) : Prop where
  os : w'.os = w.os
  tape : w'.tape = w.tape
  output : w'.output = w.output
  size : w.heap.size ≤ w'.heap.size
  block : ∀ k, k < w.heap.size → ¬ S k → w'.heap[k]? = w.heap[k]?
theorem Mut.refl (S : Nat → Prop) (w : World) : Mut S w w := ⟨rfl, rfl, rfl, Nat.le_refl _, fun _ _ _ => rfl⟩
theorem Mut.trans {S S' : Nat → Prop} {a b c : World} (h : Mut S a b) (k : Mut S' b c) (hS : ∀ i, i < a.heap.size → S' i → S i) : Mut S a c :=
  ⟨k.os.trans h.os, k.tape.trans h.tape, k.output.trans h.output, Nat.le_trans h.size k.size, fun i hi hn => (k.block i (Nat.lt_of_lt_of_le hi h.size) (fun e => hn (hS i hi e))).trans (h.block i hi hn)⟩
theorem Mut.ofBelow {w w' : World} (h : Below w.heap.size w w') (S : Nat → Prop) : Mut S w w' := ⟨h.os, h.tape, h.output, h.size, fun k hk _ => h.block k hk⟩
theorem Mut.below {S : Nat → Prop} {w w' : World} (h : Mut S w w') {B : Nat} (hB : B ≤ w.heap.size) (hS : ∀ k, S k → B ≤ k) : Below B w w' :=
  ⟨h.os, h.tape, h.output, h.size, fun k hk => h.block k (by omega) (fun e => by have := hS k e; omega)⟩
theorem Mut.set (w : World) (b j : Nat) (u : Value) {S : Nat → Prop} (hb : S b) : Mut S w (w.setCell ⟨b, j, none⟩ u) :=
  ⟨rfl, rfl, rfl, by simp [World.setCell], fun k _ hn => Below.heap_setCell _ _ _ _ (fun e => hn (by simp at e; rw [e]; exact hb))⟩
theorem Mut.drewN (S : Nat → Prop) (w : World) (m : Nat) : Mut S w (w.drewN m) := Mut.ofBelow (below_drewN (Below.refl _ _) m) S
theorem Mut.cell {S : Nat → Prop} {w w' : World} (h : Mut S w w') {b j : Nat} (hlt : b < w.heap.size) (hn : ¬ S b) : w'.cell? ⟨b, j, none⟩ = w.cell? ⟨b, j, none⟩ := World.cell?_of_block (h.block b hlt hn)
end Go.Proofs.Ytadkiikakgmpnaa
