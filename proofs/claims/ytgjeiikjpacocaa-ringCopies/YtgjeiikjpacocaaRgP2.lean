/-
  Two pairs of a ring and a row beside each other.
-/
import Derived.Test.YtgjeiikjpacocaaRgP
namespace Go.Proofs.Ytgjeiikjpacocaa
open Go.RowKit RI
open Rr (row SkI cells_at kept_block alloc_block two_new)
set_option linter.unusedVariables false
section
variable {w wr w1 w2 : World} {Z N : Nat → Prop} {B mb : Nat} {o : Option Nat} {room fr cnt : Nat} {av : Option Addr} {cap : Nat} {f : Nat → Int}
theorem Pl.addZ (h : Pl w wr Z B mb o room fr cnt av cap f) (b : Below wr.heap.size wr w1) (hN : ∀ k, N k → wr.heap.size ≤ k ∧ k < w1.heap.size) : Pl w w1 (fun k => Z k ∨ N k) B mb o room fr cnt av cap f := by
  have lt : ∀ k, own B o k ∨ k = mb → k < wr.heap.size := fun k hk => h.ltX k (hk.elim .inl (fun e => .inr (.inl e)))
  refine ⟨h.rn.below b, (h.sk.weaken (fun k hk e => ?_)).below b, below_keeps b h.blk, h.bel.trans (b.mono h.bel.size), h.since, h.apart, fun k hk e => ?_, fun k hk => ?_⟩
  · rcases e with e | e | e | e
    · exact .inl e
    · exact .inr (.inl e)
    · exact .inr (.inr e)
    · have := (hN k e).1; omega
  · rcases e with e | e
    · exact h.apartZ k hk e
    · have := lt k hk; have := (hN k e).1; omega
  · rcases hk with hk | hk
    · exact Nat.lt_of_lt_of_le (h.ltZ k hk) b.size
    · exact (hN k hk).2
theorem Pl.subZ {Z' : Nat → Prop} (h : Pl w wr Z' B mb o room fr cnt av cap f) (hZ : ∀ k, Z k → Z' k) : Pl w wr Z B mb o room fr cnt av cap f :=
  ⟨h.rn, h.sk.weaken (fun k _ e => by
    rcases e with e | e | e
    · exact .inl e
    · exact .inr (.inl e)
    · exact .inr (.inr (hZ k e))), h.blk, h.bel, h.since, h.apart, fun k hk e => h.apartZ k hk (hZ k e), fun k hk => h.ltZ k (hZ k hk)⟩
theorem Pl.next2 (h : Pl w wr Z B mb o room fr cnt av cap f) {v : Value} (D : DoesOut wr (fun k => own B o k ∨ k = mb ∨ Z k) B o room fr v w2) :
    ∃ o' fr' cnt' a' cap' f', v = row a' cnt' cap' (fr' : Nat) room ∧ fr' ≤ fr + 1 ∧ w2.heap[mb]? = some (.cells #[.slice av cnt cap, .int .i64 fr, .int .i64 room] 29 (0, 0)) ∧ Mut (own B o) wr w2 ∧ (o' = o ∨ ∃ D', o' = some D' ∧ wr.heap.size ≤ D') ∧
      ∀ w3 N, Mut N w2 w3 → (∀ k, N k → Z k ∧ w.heap.size ≤ k) → Pl w (((w3.setCell ⟨mb, 0, none⟩ (.slice a' cnt' cap')).setCell ⟨mb, 1, none⟩ (.int .i64 fr')).setCell ⟨mb, 2, none⟩ (.int .i64 room)) Z B mb o' room fr' cnt' a' cap' f' ∧
        Mut (fun k => own B o k ∨ k = mb ∨ N k) wr (((w3.setCell ⟨mb, 0, none⟩ (.slice a' cnt' cap')).setCell ⟨mb, 1, none⟩ (.int .i64 fr')).setCell ⟨mb, 2, none⟩ (.int .i64 room)) := by
  obtain ⟨o'', fr'', cnt'', a'', cap'', f'', hv2, r, s, m, ho, hfr⟩ := D
  have hblk := m.keeps h.blk h.apart
  refine ⟨o'', fr'', cnt'', a'', cap'', f'', hv2, hfr, hblk, m, ho, fun w3 N n3 hNN => ?_⟩
  have hN : ∀ k, N k → Z k := fun k e => (hNN k e).1
  have hm3 : Mut (fun k => k = mb) w3 (((w3.setCell ⟨mb, 0, none⟩ (.slice a'' cnt'' cap'')).setCell ⟨mb, 1, none⟩ (.int .i64 fr'')).setCell ⟨mb, 2, none⟩ (.int .i64 room)) :=
    ((Mut.set w3 mb 0 _ (S := fun k => k = mb) rfl).trans (Mut.set _ mb 1 _ (S := fun k => k = mb) rfl) (fun _ _ e => e)).trans (Mut.set _ mb 2 _ (S := fun k => k = mb) rfl) (fun _ _ e => e)
  have hmb := h.ltM
  have hw := h.bel.size
  have hws := m.size
  have hap : ¬ own B o'' mb := fun e => by
    rcases e with e | e
    · exact h.apart (.inl e)
    · rcases ho with rfl | ⟨D', rfl, hD⟩
      · exact h.apart (.inr e)
      · cases e; omega
  have ownZ : ∀ k, own B o'' k → ¬ Z k := fun k hk hz => by
    rcases hk with hk | hk
    · exact h.apartZ k (.inl (.inl hk)) hz
    · rcases ho with rfl | ⟨D', rfl, hD⟩
      · exact h.apartZ k (.inl (.inr hk)) hz
      · cases hk; have := h.ltZ _ hz; omega
  have hsince : ∀ k, own B o'' k ∨ k = mb → w.heap.size ≤ k := fun k hk => by
    rcases hk with hk | hk
    · rcases hk with hk | hk
      · exact h.since k (.inl (.inl hk))
      · rcases ho with rfl | ⟨D', rfl, hD⟩
        · exact h.since k (.inl (.inr hk))
        · cases hk; omega
    · exact h.since k (.inr hk)
  have mall : Mut (fun k => own B o k ∨ k = mb ∨ N k) wr (((w3.setCell ⟨mb, 0, none⟩ (.slice a'' cnt'' cap'')).setCell ⟨mb, 1, none⟩ (.int .i64 fr'')).setCell ⟨mb, 2, none⟩ (.int .i64 room)) :=
    (((Mut.refl _ wr).trans m (fun _ _ e => .inl e)).trans n3 (fun _ _ e => .inr (.inr e))).trans hm3 (fun _ _ e => .inr (.inl e))
  refine ⟨⟨(r.kept n3 (fun k hk e => ownZ k hk (hN k e))).kept hm3 (fun k hk e => hap (e ▸ hk)), ?_, ?_, ?_, hsince, hap, fun k hk => ?_, fun k hk => ?_⟩, mall⟩
  · exact ((s.kept n3 (fun k e => .inl (.inr (.inr (hN k e))))).kept hm3 (fun k e => .inl (.inr (.inl e)))).weaken (fun k _ e => by
      rcases e with e | e | e
      · exact .inr e
      · exact .inl (.inr (.inl e))
      · exact .inl (.inr (.inr e)))
  · rw [heap_setCell_same _ mb 2 _ _ _ (heap_setCell_same _ mb 1 _ _ _ (heap_setCell_same w3 mb 0 _ _ _ (n3.keeps hblk (fun e => h.apartZ mb (.inr rfl) (hN mb e)))))]; rfl
  · exact h.bel.trans (mall.below h.bel.size (fun k hk => by
      rcases hk with hk | hk | hk
      · exact h.since k (.inl hk)
      · exact h.since k (.inr hk)
      · exact (hNN k hk).2))
  · rcases hk with hk | hk
    · exact ownZ k hk
    · exact h.apartZ k (.inr hk)
  · exact Nat.lt_of_lt_of_le (Nat.lt_of_lt_of_le (h.ltZ k hk) m.size) (Nat.le_trans n3.size hm3.size)
/-- What was done to the one pair, in the world w', the other pair beside it. -/
theorem Pl.both {B2 mb2 : Nat} {o2 o' : Option Nat} {room2 fr2 cnt2 : Nat} {av2 : Option Addr} {cap2 : Nat} {f2 : Nat → Int} {w' : World} {fr' cnt' : Nat} {a' : Option Addr} {cap' : Nat} {f' : Nat → Int}
    (h : Pl w wr (fun k => own B2 o2 k ∨ k = mb2) B mb o room fr cnt av cap f) (h2 : Pl w wr (fun k => own B o k ∨ k = mb) B2 mb2 o2 room2 fr2 cnt2 av2 cap2 f2)
    (hp : Pl w w' (fun k => (own B2 o2 k ∨ k = mb2) ∨ N k) B mb o' room fr' cnt' a' cap' f') (b1 : Below wr.heap.size wr w1) (m : Mut (fun k => own B o k ∨ k = mb ∨ N k) w1 w') (hN : ∀ k, N k → wr.heap.size ≤ k) (ho : o' = o ∨ ∃ D', o' = some D' ∧ w1.heap.size ≤ D') :
    Pl w w' (fun k => own B2 o2 k ∨ k = mb2) B mb o' room fr' cnt' a' cap' f' ∧ Pl w w' (fun k => own B o' k ∨ k = mb) B2 mb2 o2 room2 fr2 cnt2 av2 cap2 f2 := by
  have hp' := hp.subZ (Z := fun k => own B2 o2 k ∨ k = mb2) (fun k e => .inl e)
  have mm : Mut (fun k => own B o k ∨ k = mb) wr w' := (Mut.ofBelow b1 _).trans m (fun k hk e => by
    rcases e with e | e | e
    · exact .inl e
    · exact .inr e
    · have := hN k e; omega)
  refine ⟨hp', h2.other (Z2 := fun _ => True) mm ?_ (fun k hk => hp'.ltX k (hk.elim .inl (fun e => .inr (.inl e)))) h.since⟩
  rcases ho with e | ⟨D', e, hD⟩
  · exact .inl e
  · exact .inr ⟨D', e, Nat.le_trans b1.size hD⟩
/-- Right behind a copy. -/
theorem Pl.copied {w3 : World} {B2 kb : Nat} {o2 : Option Nat} {M : Nat → Prop} (h : Pl w wr (fun _ => False) B mb o room fr cnt av cap f) (b2 : Below wr.heap.size wr w2) (r2 : RnI w2 B2 o2 room fr cnt f) (s2 : ∀ k, own B2 o2 k → wr.heap.size ≤ k) (m3 : Mut M w2 w3) (hM : ∀ k, M k → k = kb) (hkb : wr.heap.size ≤ kb) (hnb : ¬ own B2 o2 kb)
    (hk : w3.heap[kb]? = some (.cells #[.slice av cnt cap, .int .i64 fr, .int .i64 room] 29 (0, 0))) :
    Pl w w3 (fun k => own B2 o2 k ∨ k = kb) B mb o room fr cnt av cap f ∧ Pl w w3 (fun k => own B o k ∨ k = mb) B2 kb o2 room fr cnt av cap f := by
  have hw := h.bel.size
  have lt : ∀ k, own B o k ∨ k = mb → k < wr.heap.size := fun k hk => h.ltX k (hk.elim .inl (fun e => .inr (.inl e)))
  have b3 : Below wr.heap.size wr w3 := b2.trans (m3.below b2.size (fun k e => by rw [hM k e]; exact hkb))
  have hkl : kb < w3.heap.size := (Array.getElem?_eq_some_iff.1 hk).1
  have r3 : RnI w3 B2 o2 room fr cnt f := r2.kept m3 (fun k hk e => hnb (hM k e ▸ hk))
  have s3 : SkI w3 (fun k => (own B o k ∨ k = mb) ∨ (own B2 o2 k ∨ k = kb)) av cnt cap f := (h.sk.weaken (fun k hkk e => by
    rcases e with (e | e) | e | e
    · exact .inl e
    · exact .inr (.inl e)
    · have := s2 k e; omega
    · omega)).below b3
  refine ⟨⟨h.rn.below b3, s3.weaken (fun k _ e => ?_), below_keeps b3 h.blk, h.bel.trans (b3.mono hw), h.since, h.apart, fun k hk e => ?_, fun k hk => ?_⟩, ⟨r3, s3.weaken (fun k _ e => ?_), hk, h.bel.trans (b3.mono hw), fun k hk => ?_, hnb, fun k hk e => ?_, fun k hk => ?_⟩⟩
  · rcases e with e | e | e
    · exact .inl (.inl e)
    · exact .inl (.inr e)
    · exact .inr e
  · have := lt k hk
    rcases e with e | e
    · have := s2 k e; omega
    · omega
  · rcases hk with hk | hk
    · exact r3.ltOwn hk
    · omega
  · rcases e with e | e | e
    · exact .inr (.inl e)
    · exact .inr (.inr e)
    · exact .inl e
  · rcases hk with hk | hk
    · have := s2 k hk; omega
    · omega
  · have := lt k e
    rcases hk with hk | hk
    · have := s2 k hk; omega
    · omega
  · exact Nat.lt_of_lt_of_le (lt k hk) b3.size
end
end Go.Proofs.Ytgjeiikjpacocaa
