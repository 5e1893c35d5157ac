/-
  Slices of structs of three integers of given kinds, told by functions of the place; such an argument opened. No program is named here.
-/
import Derived.Test.YtgjeiikjpacocaaBase
import Derived.Deep.Strs
import Derived.Lib.SmallJoins
namespace Go.Proofs.Ytgjeiikjpacocaa
open Go.RowKit Go.ChangeShapes Go.WideShapes

/-- A slice of structs of three integers: nil, or it leads to cells that hold what L, H, C tell. -/
structure Tri (w : World) (K0 K1 K2 : IntKind) (a : Option Addr) (n cap : Nat) (L H C : Nat → Int) : Prop where
  le : n ≤ cap
  mx : cap ≤ maxLen
  nil : a = none → n = 0 ∧ cap = 0
  at' : 0 < n → ∃ b off, a = some ⟨b, off, none⟩ ∧ b < w.heap.size ∧ ∀ i, i < n → w.cell? ⟨b, off + i * 3, none⟩ = some (.int K0 (L i)) ∧ w.cell? ⟨b, off + i * 3 + 1, none⟩ = some (.int K1 (H i)) ∧ w.cell? ⟨b, off + i * 3 + 2, none⟩ = some (.int K2 (C i))
theorem Tri.below {w w' : World} {K0 K1 K2 : IntKind} {a : Option Addr} {n cap : Nat} {L H C : Nat → Int} (h : Tri w K0 K1 K2 a n cap L H C) (hb : Below w.heap.size w w') : Tri w' K0 K1 K2 a n cap L H C :=
  ⟨h.le, h.mx, h.nil, fun hn => by
    obtain ⟨b, off, rfl, hlt, hc⟩ := h.at' hn
    refine ⟨b, off, rfl, Nat.lt_of_lt_of_le hlt hb.size, fun i hi => ?_⟩
    rw [hb.cell (p := ⟨b, off + i * 3, none⟩) hlt, hb.cell (p := ⟨b, off + i * 3 + 1, none⟩) hlt, hb.cell (p := ⟨b, off + i * 3 + 2, none⟩) hlt]
    exact hc i hi⟩

section
variable {H0 : Type} {enc : TypeId × Value → H0} {P : Program} {w : World} {base : Nat} {spare : Nat → Bool} {held : Bool}
theorem open_os {r : Reach} {b0 : Nat} {t e t0 t1 t2 : TypeId} {K0 K1 K2 : IntKind} {f0 f1 f2 : Field} {v : Value} {d : DataW H0} {p : List MemPlace} (ht : P.underlying t = some (.slice e)) (he : P.underlying e = some (.struct #[f0, f1, f2])) (ce : P.cellsOf e = 3)
    (ht0 : f0.type = t0) (ht1 : f1.type = t1) (ht2 : f2.type = t2) (ho0 : f0.offset = 0) (ho1 : f1.offset = 1) (ho2 : f2.offset = 2) (hk0 : P.underlying t0 = some (.int K0)) (hk1 : P.underlying t1 = some (.int K1)) (hk2 : P.underlying t2 = some (.int K2)) (c0 : P.cellsOf t0 = 1) (c1 : P.cellsOf t1 = 1) (c2 : P.cellsOf t2 = 1)
    (hv : Value.okWide P w r b0 t v) (h : DataW.Trod enc P w base spare held t v d p) : ∃ a n c L H C, v = .slice a n c ∧ Tri w K0 K1 K2 a n c L H C := by
  obtain ⟨a, n, c, rfl⟩ := okWide_slice ht hv
  obtain ⟨fuel, hf⟩ := h
  rcases Deep.open_slice ht hf with ⟨hcs, _⟩ | ⟨x, l, k, m, q, D, Pl, hcs, _, hl, hm, hmm, _, hx⟩
  · simp [Value.cells] at hcs
    obtain ⟨rfl, rfl, rfl⟩ := hcs
    exact ⟨none, 0, 0, fun _ => 0, fun _ => 0, fun _ => 0, rfl, Nat.le_refl _, Nat.zero_le _, fun _ => ⟨rfl, rfl⟩, fun h => absurd h (by omega)⟩
  · simp [Value.cells] at hcs
    obtain ⟨rfl, rfl, rfl⟩ := hcs
    have hlm : n ≤ m := by rw [hmm]; split <;> omega
    have each : ∀ i, i < n → ∃ y : Int × Int × Int, w.cell? (x.add (i * 3)) = some (.int K0 y.1) ∧ w.cell? (x.add (i * 3 + 1)) = some (.int K1 y.2.1) ∧ w.cell? (x.add (i * 3 + 2)) = some (.int K2 y.2.2) := by
      intro i hi
      obtain ⟨cs', h1, h2⟩ := hx i (by omega)
      rw [ce] at h1
      obtain ⟨_, hlen, hcell⟩ := World.cells?_some h1
      obtain ⟨y0, y1, y2, n', _, _, g0, g1, g2⟩ := Deep.trod_struct3 he h2
      match cs', hlen with
      | [v0, v1, v2], _ =>
        simp [ht0, ht1, ht2, ho0, ho1, ho2, c0, c1, c2] at g0 g1 g2
        obtain ⟨z0, k0, _, _⟩ := DataW.trod_int hk0 g0
        obtain ⟨z1, k1, _, _⟩ := DataW.trod_int hk1 g1
        obtain ⟨z2, k2, _, _⟩ := DataW.trod_int hk2 g2
        simp at k0 k1 k2
        subst k0 k1 k2
        have e0 := hcell 0 (by omega)
        have e1 := hcell 1 (by omega)
        have e2 := hcell 2 (by omega)
        rw [Deep.add_add] at e0 e1 e2
        exact ⟨(z0, z1, z2), by simpa using e0, by simpa using e1, by simpa using e2⟩
    obtain ⟨Y, hY⟩ := Deep.choose_lt each
    refine ⟨some x, n, c, fun i => (Y i).1, fun i => (Y i).2.1, fun i => (Y i).2.2, rfl, hl, hm, fun e => absurd e (by simp), fun h0 => ?_⟩
    obtain ⟨b, off, spot⟩ := x
    have hs : spot = none := by
      have := World.cell?_spot (hY 0 h0).1
      simpa [Addr.add] using this
    subst hs
    refine ⟨b, off, rfl, ?_, fun i hi => ?_⟩
    · exact World.block_lt_of_cell? _ _ (by have := (hY 0 h0).1; rwa [Addr.add_lit] at this)
    · have := hY i hi; rwa [Addr.add_lit, Addr.add_lit, Addr.add_lit] at this
end
end Go.Proofs.Ytgjeiikjpacocaa
