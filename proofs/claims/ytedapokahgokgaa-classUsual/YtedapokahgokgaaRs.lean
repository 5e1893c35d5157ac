/-
  Slices of ranges (three integers each) told by functions of the place. No program is named here.
-/
import Derived.Test.YtedapokahgokgaaBase
namespace Go.Proofs.Ytedapokahgokgaa
open Go.RowKit

/-- Cells at block b from off on: triples of integers. -/
structure Tr (w : World) (b off n : Nat) (L H C : Nat → Int) : Prop where
  lo : ∀ i, i < n → w.cell? ⟨b, off + i * 3, none⟩ = some (.int .i64 (L i))
  hi : ∀ i, i < n → w.cell? ⟨b, off + i * 3 + 1, none⟩ = some (.int .i64 (H i))
  cl : ∀ i, i < n → w.cell? ⟨b, off + i * 3 + 2, none⟩ = some (.int .i64 (C i))
theorem Tr.below {w w' : World} {b off n : Nat} {L H C : Nat → Int} (h : Tr w b off n L H C) (hlt : b < w.heap.size) (hb : Below w.heap.size w w') : Tr w' b off n L H C :=
  ⟨fun i hi => by rw [hb.cell (p := ⟨b, off + i * 3, none⟩) hlt]; exact h.lo i hi, fun i hi => by rw [hb.cell (p := ⟨b, off + i * 3 + 1, none⟩) hlt]; exact h.hi i hi, fun i hi => by rw [hb.cell (p := ⟨b, off + i * 3 + 2, none⟩) hlt]; exact h.cl i hi⟩

/-- A slice of ranges: nil, or it leads to cells that hold what L, H, C tell. -/
structure Rs (w : World) (a : Option Addr) (n cap : Nat) (L H C : Nat → Int) : Prop where
  le : n ≤ cap
  mx : cap ≤ maxLen
  nil : a = none → n = 0 ∧ cap = 0
  at' : 0 < n → ∃ b off, a = some ⟨b, off, none⟩ ∧ b < w.heap.size ∧ Tr w b off n L H C
theorem Rs.below {w w' : World} {a : Option Addr} {n cap : Nat} {L H C : Nat → Int} (h : Rs w a n cap L H C) (hb : Below w.heap.size w w') : Rs w' a n cap L H C :=
  ⟨h.le, h.mx, h.nil, fun hn => by
    obtain ⟨b, off, rfl, hlt, ht⟩ := h.at' hn
    exact ⟨b, off, rfl, Nat.lt_of_lt_of_le hlt hb.size, ht.below hlt hb⟩⟩
end Go.Proofs.Ytedapokahgokgaa
