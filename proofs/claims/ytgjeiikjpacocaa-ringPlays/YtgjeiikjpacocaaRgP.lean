/-
  A ring, beside the document's row in a variable of the statement's: what they are as operations go on.
-/
import Derived.Test.YtgjeiikjpacocaaRgE
namespace Go.Proofs.Ytgjeiikjpacocaa
open Go.RowKit RI
open Rr (row SkI cells_at kept_block alloc_block two_new)
set_option linter.unusedVariables false

/-- A ring at B and a row in block mb that say the same, made since w, apart from the blocks of Z. -/
structure Pl (w wr : World) (Z : Nat → Prop) (B mb : Nat) (o : Option Nat) (room fr cnt : Nat) (av : Option Addr) (cap : Nat) (f : Nat → Int) : Prop where
  rn : RnI wr B o room fr cnt f
  sk : SkI wr (fun k => own B o k ∨ k = mb ∨ Z k) av cnt cap f
  blk : wr.heap[mb]? = some (.cells #[.slice av cnt cap, .int .i64 fr, .int .i64 room] 29 (0, 0))
  bel : Below w.heap.size w wr
  since : ∀ k, own B o k ∨ k = mb → w.heap.size ≤ k
  apart : ¬ own B o mb
  apartZ : ∀ k, own B o k ∨ k = mb → ¬ Z k
  ltZ : ∀ k, Z k → k < wr.heap.size
section
variable {w wr w1 w2 : World} {Z : Nat → Prop} {B mb : Nat} {o : Option Nat} {room fr cnt : Nat} {av : Option Addr} {cap : Nat} {f : Nat → Int}
theorem Pl.ltM (h : Pl w wr Z B mb o room fr cnt av cap f) : mb < wr.heap.size := (Array.getElem?_eq_some_iff.1 h.blk).1
theorem Pl.below (h : Pl w wr Z B mb o room fr cnt av cap f) (hb : Below wr.heap.size wr w1) : Pl w w1 Z B mb o room fr cnt av cap f :=
  ⟨h.rn.below hb, h.sk.below hb, below_keeps hb h.blk, h.bel.trans (hb.mono h.bel.size), h.since, h.apart, h.apartZ, fun k hk => Nat.lt_of_lt_of_le (h.ltZ k hk) hb.size⟩
theorem Pl.ltX (h : Pl w wr Z B mb o room fr cnt av cap f) : ∀ k, (own B o k ∨ k = mb ∨ Z k) → k < wr.heap.size := fun k hk => by
  rcases hk with hk | rfl | hk
  · exact h.rn.ltOwn hk
  · exact h.ltM
  · exact h.ltZ k hk
/-- The call of 'does' over the pair. -/
theorem Pl.does (h : Pl w wr Z B mb o room fr cnt av cap f) (hfr : fr + 1 ≤ 1099511627776) (kind x N : Int) :
    Calls Try.prog 11 #[ptr B, row av cnt cap fr room, opv kind x N] wr fun e w' => ∃ v, e = .returned (.tuple #[v, .bool true]) ∧ DoesOut wr (fun k => own B o k ∨ k = mb ∨ Z k) B o room fr v w' :=
  does_calls (fun k hk => .inl hk) h.ltX h.rn h.sk hfr kind x N

/-- What the pair is behind it, once the row's variable holds the new row; and what is left as it was. -/
structure Nx (w wr : World) (Z : Nat → Prop) (B mb : Nat) (o o' : Option Nat) (room fr' cnt' : Nat) (a' : Option Addr) (cap' : Nat) (f' : Nat → Int) (w' : World) : Prop where
  pl : Pl w w' Z B mb o' room fr' cnt' a' cap' f'
  chg : Mut (fun k => own B o k ∨ k = mb) wr w'
  old : o' = o ∨ ∃ D', o' = some D' ∧ wr.heap.size ≤ D'
theorem Pl.next (h : Pl w wr Z B mb o room fr cnt av cap f) {v : Value} (D : DoesOut wr (fun k => own B o k ∨ k = mb ∨ Z k) B o room fr v w2) :
    ∃ o' fr' cnt' a' cap' f', v = row a' cnt' cap' (fr' : Nat) room ∧ fr' ≤ fr + 1 ∧ w2.heap[mb]? = some (.cells #[.slice av cnt cap, .int .i64 fr, .int .i64 room] 29 (0, 0)) ∧ wr.heap.size ≤ w2.heap.size ∧ Below w.heap.size w w2 ∧
      ∀ w3, Below w2.heap.size w2 w3 → Nx w wr Z B mb o o' room fr' cnt' a' cap' f' (((w3.setCell ⟨mb, 0, none⟩ (.slice a' cnt' cap')).setCell ⟨mb, 1, none⟩ (.int .i64 fr')).setCell ⟨mb, 2, none⟩ (.int .i64 room)) := by
  obtain ⟨o', fr', cnt', a', cap', f', rfl, r, s, m, ho, hfr⟩ := D
  have hblk := m.keeps h.blk h.apart
  have hbel := h.bel.trans (m.below h.bel.size (fun k hk => h.since k (.inl hk)))
  refine ⟨o', fr', cnt', a', cap', f', rfl, hfr, hblk, m.size, hbel, fun w3 b3 => ?_⟩
  have hm3 : Mut (fun k => k = mb) w3 (((w3.setCell ⟨mb, 0, none⟩ (.slice a' cnt' cap')).setCell ⟨mb, 1, none⟩ (.int .i64 fr')).setCell ⟨mb, 2, none⟩ (.int .i64 room)) :=
    ((Mut.set w3 mb 0 _ (S := fun k => k = mb) rfl).trans (Mut.set _ mb 1 _ (S := fun k => k = mb) rfl) (fun _ _ e => e)).trans (Mut.set _ mb 2 _ (S := fun k => k = mb) rfl) (fun _ _ e => e)
  have hmb := h.ltM
  have hw := h.bel.size
  have hws := m.size
  have hap : ¬ own B o' mb := fun e => by
    rcases e with e | e
    · exact h.apart (.inl e)
    · rcases ho with rfl | ⟨D', rfl, hD⟩
      · exact h.apart (.inr e)
      · cases e; omega
  have ownZ : ∀ k, own B o' k → ¬ Z k := fun k hk hz => by
    rcases hk with hk | hk
    · exact h.apartZ k (.inl (.inl hk)) hz
    · rcases ho with rfl | ⟨D', rfl, hD⟩
      · exact h.apartZ k (.inl (.inr hk)) hz
      · cases hk; have := h.ltZ _ hz; omega
  have hsince : ∀ k, own B o' k ∨ k = mb → w.heap.size ≤ k := fun k hk => by
    rcases hk with hk | hk
    · rcases hk with hk | hk
      · exact h.since k (.inl (.inl hk))
      · rcases ho with rfl | ⟨D', rfl, hD⟩
        · exact h.since k (.inl (.inr hk))
        · cases hk; omega
    · exact h.since k (.inr hk)
  have m3 := Mut.ofBelow b3 (fun k => own B o k ∨ k = mb)
  have mall : Mut (fun k => own B o k ∨ k = mb) wr (((w3.setCell ⟨mb, 0, none⟩ (.slice a' cnt' cap')).setCell ⟨mb, 1, none⟩ (.int .i64 fr')).setCell ⟨mb, 2, none⟩ (.int .i64 room)) :=
    (((Mut.refl _ wr).trans m (fun _ _ e => .inl e)).trans m3 (fun _ _ e => e)).trans hm3 (fun _ _ e => .inr e)
  refine ⟨⟨(r.below b3).kept hm3 (fun k hk e => hap (e ▸ hk)), ?_, ?_, h.bel.trans (mall.below h.bel.size (fun k hk => h.since k hk)), hsince, hap, fun k hk => ?_, fun k hk => ?_⟩, mall, ho⟩
  · exact ((s.below b3).kept hm3 (fun k e => .inl (.inr (.inl e)))).weaken (fun k _ e => by
      rcases e with e | e | e
      · exact .inr e
      · exact .inl (.inr (.inl e))
      · exact .inl (.inr (.inr e)))
  · rw [heap_setCell_same _ mb 2 _ _ _ (heap_setCell_same _ mb 1 _ _ _ (heap_setCell_same w3 mb 0 _ _ _ (below_keeps b3 hblk)))]; rfl
  · rcases hk with hk | hk
    · exact ownZ k hk
    · exact h.apartZ k (.inr hk)
  · exact Nat.lt_of_lt_of_le (Nat.lt_of_lt_of_le (h.ltZ k hk) m.size) (Nat.le_trans b3.size hm3.size)
theorem Nx.below {o' : Option Nat} {fr' cnt' : Nat} {a' : Option Addr} {cap' : Nat} {f' : Nat → Int} {w' w'' : World} (h : Nx w wr Z B mb o o' room fr' cnt' a' cap' f' w') (b : Below w'.heap.size w' w'') : Nx w wr Z B mb o o' room fr' cnt' a' cap' f' w'' :=
  ⟨h.pl.below b, h.chg.trans (Mut.ofBelow b _) (fun _ _ e => e), h.old⟩
/-- The other pair. -/
theorem Pl.other {Z2 : Nat → Prop} {B2 mb2 : Nat} {o2 o' : Option Nat} {room2 fr2 cnt2 : Nat} {av2 : Option Addr} {cap2 : Nat} {f2 : Nat → Int} {w' : World} (h2 : Pl w wr (fun k => own B o k ∨ k = mb) B2 mb2 o2 room2 fr2 cnt2 av2 cap2 f2)
    (m : Mut (fun k => own B o k ∨ k = mb) wr w') (ho : o' = o ∨ ∃ D', o' = some D' ∧ wr.heap.size ≤ D') (hlt : ∀ k, (own B o' k ∨ k = mb) → k < w'.heap.size) (hw : ∀ k, own B o k ∨ k = mb → w.heap.size ≤ k) : Pl w w' (fun k => own B o' k ∨ k = mb) B2 mb2 o2 room2 fr2 cnt2 av2 cap2 f2 := by
  have old : ∀ k, k < wr.heap.size → (own B o' k ∨ k = mb) → (own B o k ∨ k = mb) := fun k hk e => by
    rcases e with e | e
    · rcases e with e | e
      · exact .inl (.inl e)
      · rcases ho with rfl | ⟨D', rfl, hD⟩
        · exact .inl (.inr e)
        · cases e; omega
    · exact .inr e
  refine ⟨h2.rn.kept m (fun k hk => h2.apartZ k (.inl hk)), ?_, m.keeps h2.blk (h2.apartZ mb2 (.inr rfl)), h2.bel.trans (m.below h2.bel.size hw), h2.since, h2.apart, fun k hk e => ?_, hlt⟩
  · have s : SkI wr (fun k => (own B2 o2 k ∨ k = mb2 ∨ (own B o' k ∨ k = mb)) ∨ (own B o k ∨ k = mb)) av2 cnt2 cap2 f2 := h2.sk.weaken (fun k hk e => by
      rcases e with (e | e | e) | e
      · exact .inl e
      · exact .inr (.inl e)
      · exact .inr (.inr (old k hk e))
      · exact .inr (.inr e))
    exact (s.kept m (fun k e => .inr e)).weaken (fun k _ e => .inl e)
  · have hk2 : k < wr.heap.size := by
      rcases hk with hk | rfl
      · exact h2.rn.ltOwn hk
      · exact h2.ltM
    exact h2.apartZ k hk (old k hk2 e)
end
end Go.Proofs.Ytgjeiikjpacocaa
