/-
  Both pairs, as operations go on.
-/
import Derived.Test.YtgjeiikjpacocaaRgP2
namespace Go.Proofs.Ytgjeiikjpacocaa
open Go.RowKit RI
open Rr (row SkI cells_at kept_block alloc_block two_new)
set_option linter.unusedVariables false

theorem three_mut (w3 : World) (nb : Nat) (u0 u1 u2 : Value) : Mut (fun k => k = nb) w3 (((w3.setCell ⟨nb, 0, none⟩ u0).setCell ⟨nb, 1, none⟩ u1).setCell ⟨nb, 2, none⟩ u2) :=
  ((Mut.set w3 nb 0 _ (S := fun k => k = nb) rfl).trans (Mut.set _ nb 1 _ (S := fun k => k = nb) rfl) (fun _ _ e => e)).trans (Mut.set _ nb 2 _ (S := fun k => k = nb) rfl) (fun _ _ e => e)
theorem three_blk {w3 : World} {nb : Nat} {t : TypeId} {v0 v1 v2 u0 u1 u2 : Value} (h : w3.heap[nb]? = some (.cells #[v0, v1, v2] t (0, 0))) : (((w3.setCell ⟨nb, 0, none⟩ u0).setCell ⟨nb, 1, none⟩ u1).setCell ⟨nb, 2, none⟩ u2).heap[nb]? = some (.cells #[u0, u1, u2] t (0, 0)) := by
  rw [heap_setCell_same _ nb 2 _ _ _ (heap_setCell_same _ nb 1 _ _ _ (heap_setCell_same w3 nb 0 _ _ _ h))]; rfl
/-- Two rings and two rows; each ring says what its row says; no more than lim things were taken at the front. -/
def Two (w wr : World) (B mb B2 kb room lim : Nat) : Prop :=
  ∃ o fr cnt av cp f o2 fr2 cnt2 av2 cp2 f2, fr ≤ lim ∧ fr2 ≤ lim ∧ Pl w wr (fun k => own B2 o2 k ∨ k = kb) B mb o room fr cnt av cp f ∧ Pl w wr (fun k => own B o k ∨ k = mb) B2 kb o2 room fr2 cnt2 av2 cp2 f2
section
variable {w wr w1 w2 : World} {B mb B2 kb : Nat} {o o2 : Option Nat} {room fr cnt fr2 cnt2 lim : Nat} {av av2 : Option Addr} {cap cap2 : Nat} {f f2 : Nat → Int}
theorem Two.below (h : Two w wr B mb B2 kb room lim) (b : Below wr.heap.size wr w1) : Two w w1 B mb B2 kb room lim := by
  obtain ⟨o, fr, cnt, av, cp, f, o2, fr2, cnt2, av2, cp2, f2, h1, h2, p1, p2⟩ := h
  exact ⟨o, fr, cnt, av, cp, f, o2, fr2, cnt2, av2, cp2, f2, h1, h2, p1.below b, p2.below b⟩
theorem Two.mono (h : Two w wr B mb B2 kb room lim) {lim' : Nat} (hl : lim ≤ lim') : Two w wr B mb B2 kb room lim' := by
  obtain ⟨o, fr, cnt, av, cp, f, o2, fr2, cnt2, av2, cp2, f2, h1, h2, p1, p2⟩ := h
  exact ⟨o, fr, cnt, av, cp, f, o2, fr2, cnt2, av2, cp2, f2, by omega, by omega, p1, p2⟩
theorem Two.swap (h : Two w wr B mb B2 kb room lim) : Two w wr B2 kb B mb room lim := by
  obtain ⟨o, fr, cnt, av, cp, f, o2, fr2, cnt2, av2, cp2, f2, h1, h2, p1, p2⟩ := h
  exact ⟨o2, fr2, cnt2, av2, cp2, f2, o, fr, cnt, av, cp, f, h2, h1, p2, p1⟩
/-- The blocks that were laid behind wr, as far as w1 goes, at that one place. -/
def nu (wr w1 : World) : Nat → Prop := fun k => k = wr.heap.size ∧ k < w1.heap.size
/-- What 'does' leaves of the first pair, and what comes of both once the row's variable holds the new row. -/
structure Dn (w wr w1 : World) (B mb B2 kb room lim : Nat) (o : Option Nat) (fr cnt : Nat) (av : Option Addr) (cap : Nat) (a' : Option Addr) (cnt' cap' fr' : Nat) (w2 : World) : Prop where
  blk : w2.heap[mb]? = some (.cells #[.slice av cnt cap, .int .i64 fr, .int .i64 room] 29 (0, 0))
  chg : Mut (own B o) w1 w2
  two : ∀ w3 N, Mut N w2 w3 → (∀ k, N k → nu wr w1 k) → Two w (((w3.setCell ⟨mb, 0, none⟩ (.slice a' cnt' cap')).setCell ⟨mb, 1, none⟩ (.int .i64 fr')).setCell ⟨mb, 2, none⟩ (.int .i64 room)) B mb B2 kb room (lim + 1)
theorem two_does (h1 : Pl w wr (fun k => own B2 o2 k ∨ k = kb) B mb o room fr cnt av cap f) (h2 : Pl w wr (fun k => own B o k ∨ k = mb) B2 kb o2 room fr2 cnt2 av2 cap2 f2) (hl : fr ≤ lim) (hl2 : fr2 ≤ lim) (hlim : lim ≤ 1000) (kind x N : Int) (b : Below wr.heap.size wr w1) :
    Calls Try.prog 11 #[ptr B, row av cnt cap fr room, opv kind x N] w1 fun e w' => ∃ a' cnt' cap' fr', e = .returned (.tuple #[row a' cnt' cap' (fr' : Nat) room, .bool true]) ∧ Dn w wr w1 B mb B2 kb room lim o fr cnt av cap a' cnt' cap' fr' w' := by
  have g1 := h1.addZ (N := nu wr w1) b (fun k hk => ⟨Nat.le_of_eq hk.1.symm, hk.2⟩)
  refine (g1.does (by omega) kind x N).mono ?_
  rintro e w2 ⟨v, rfl, D⟩
  obtain ⟨o', fr', cnt', a', cap', f', rfl, hfr, hblk, m, ho, nx⟩ := g1.next2 D
  refine ⟨a', cnt', cap', fr', rfl, hblk, m, fun w3 M hm hM => ?_⟩
  obtain ⟨q1, q2⟩ := nx w3 M hm (fun k e => ⟨.inr (hM k e), by rw [(hM k e).1]; exact h1.bel.size⟩)
  obtain ⟨r1, r2⟩ := h1.both (N := nu wr w1) h2 q1 b (⟨q2.os, q2.tape, q2.output, q2.size, fun k hk hn => q2.block k hk (fun e => hn (by
    rcases e with e | e | e
    · exact .inl e
    · exact .inr (.inl e)
    · exact .inr (.inr (hM k e))))⟩) (fun k e => Nat.le_of_eq e.1.symm) ho
  exact ⟨o', fr', cnt', a', cap', f', o2, fr2, cnt2, av2, cap2, f2, by omega, by omega, r1, r2⟩
end
end Go.Proofs.Ytgjeiikjpacocaa
