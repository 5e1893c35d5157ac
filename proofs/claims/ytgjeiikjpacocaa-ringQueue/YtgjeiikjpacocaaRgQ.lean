/-
  A ring of bytes that is filled and emptied, beside the row that takes what comes out.
-/
import Derived.Test.YtgjeiikjpacocaaRgB7
import Derived.Test.YtgjeiikjpacocaaApp
namespace Go.Proofs.Ytgjeiikjpacocaa
open Go.RowKit
open RB (RnB)
set_option linter.unusedVariables false

theorem own_mut {w w' : World} {base : Nat} {e : TypeId} {size : Nat} {v : Value} {n : Nat} {xs : List Value} {S : Nat → Prop} (h : w.ownsRow base e size v n xs) (hm : Mut S w w') (hn : ∀ k, v.ownBlock = some k → ¬ S k) : w'.ownsRow base e size v n xs := by
  refine ⟨h.1, ?_⟩
  rcases h.2 with hv | ⟨g, cap, cur, hv, hB, hg, rest⟩
  · exact .inl hv
  · exact .inr ⟨g, cap, cur, hv, hB, hm.block g (Array.getElem?_eq_some_iff.1 hg).1 (hn g (by rw [hv]; rfl)) |>.trans hg, rest⟩

/-- q bytes of f are out, in the row v; the next cnt are in the ring. -/
structure Qs (w wr : World) (B : Nat) (o : Option Nat) (room q cnt : Nat) (f : Nat → Int) (v : Value) : Prop where
  rn : RnB wr B o room q cnt (fun i => f (q + i))
  ow : wr.ownsRow w.heap.size 5 1 v q (kv .u8 f q)
  ap : ∀ k, own B o k → v.ownBlock ≠ some k
  bel : Below w.heap.size w wr
  since : ∀ k, own B o k → w.heap.size ≤ k
section
variable {w wr w1 w2 : World} {B : Nat} {o o' : Option Nat} {room q cnt : Nat} {f : Nat → Int} {v v' : Value}
theorem Qs.push (h : Qs w wr B o room q cnt f v) (r : RnB w1 B o' room q (cnt + 1) (sn (fun i => f (q + i)) cnt (f (q + cnt)))) (m : Mut (own B o) wr w1) (ho : o' = o ∨ ∃ D', o' = some D' ∧ wr.heap.size ≤ D') : Qs w w1 B o' room q (cnt + 1) f v := by
  have hs := h.bel.size
  have hbel := h.bel.trans (m.below h.bel.size h.since)
  refine ⟨r.congr (fun i hi => ?_), own_mut h.ow m (fun k hk e => h.ap k e hk), fun k hk e => ?_, hbel, fun k hk => ?_⟩
  · by_cases hic : i < cnt
    · rw [sn_lt hic]
    · rw [show i = cnt by omega, sn_eq]
  · rcases hk with hk | hk
    · exact h.ap k (.inl hk) e
    · rcases ho with rfl | ⟨D', rfl, hD⟩
      · exact h.ap k (.inr hk) e
      · cases hk; have := (h.ow.lt _ e).2; omega
  · rcases hk with hk | hk
    · exact h.since k (.inl hk)
    · rcases ho with rfl | ⟨D', rfl, hD⟩
      · exact h.since k (.inr hk)
      · cases hk; omega
/-- The first thing is taken out of the ring .. -/
theorem Qs.row (h : Qs w wr B o room q cnt f v) (m : Mut (own B o) wr w1) : w1.ownsRow w.heap.size 5 1 v q (kv .u8 f q) ∧ Below w.heap.size w w1 := ⟨own_mut h.ow m (fun k hk e => h.ap k e hk), h.bel.trans (m.below h.bel.size h.since)⟩
/-- .. and put behind the row. -/
theorem Qs.taken {c : Nat} (h : Qs w wr B o room q cnt f v) (r : RnB w1 B o room (q + 1) c (fun i => f (q + (i + 1)))) (m : Mut (own B o) wr w1) (cs : Array Value) (ow : w2.ownsRow w.heap.size 5 1 v' (q + 1) (kv .u8 f (q + 1)))
    (g : (w1.alloc (.cells cs 5)).grownBy w2 v.ownBlock) (hv : v'.ownBlock = v.ownBlock ∨ v'.ownBlock = some (w1.alloc (.cells cs 5)).heap.size) : Qs w w2 B o room (q + 1) c f v' := by
  have b1 := (h.row m).2
  have o1 := (h.row m).1
  have ba := (Below.refl _ w1).alloc (Nat.le_refl _) (.cells cs 5)
  have hsz : (w1.alloc (.cells cs 5)).heap.size = w1.heap.size + 1 := by simp
  have mg : Mut (fun k => v.ownBlock = some k) w1 w2 := (Mut.ofBelow ba _).trans ⟨g.os, g.tape, g.output, g.size, fun k hk hn => g.block k hk (fun e => hn e.symm)⟩ (fun _ _ e => e)
  refine ⟨(r.congr (fun i hi => by show f (q + (i + 1)) = f (q + 1 + i); congr 1; omega)).kept mg (fun k hk e => h.ap k hk e), ow, fun k hk e => ?_, b1.trans (mg.below b1.size (fun k e => (h.ow.lt k e).1)), h.since⟩
  rcases hv with hv | hv
  · exact h.ap k hk (hv ▸ e)
  · have hlt := r.ltOwn hk
    rw [hv] at e
    cases e
    omega
end
end Go.Proofs.Ytgjeiikjpacocaa
