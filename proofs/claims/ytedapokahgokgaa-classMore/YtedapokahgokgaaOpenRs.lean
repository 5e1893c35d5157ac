/-
  What came in, opened: slices of ranges, and one range by value. No program is named here.
-/
import Derived.Test.YtedapokahgokgaaRs
import Derived.Deep.Strs
import Derived.Lib.SmallJoins
namespace Go.Proofs.Ytedapokahgokgaa
open Go.RowKit Go.ChangeShapes Go.WideShapes

section
variable {H0 : Type} {enc : TypeId × Value → H0} {P : Program} {w : World} {base : Nat} {spare : Nat → Bool} {held : Bool}

theorem open_rs {r : Reach} {b0 : Nat} {t e ti : TypeId} {f0 f1 f2 : Field} {v : Value} {d : DataW H0} {p : List MemPlace} (ht : P.underlying t = some (.slice e)) (he : P.underlying e = some (.struct #[f0, f1, f2])) (ce : P.cellsOf e = 3)
    (ht0 : f0.type = ti) (ht1 : f1.type = ti) (ht2 : f2.type = ti) (ho0 : f0.offset = 0) (ho1 : f1.offset = 1) (ho2 : f2.offset = 2) (hti : P.underlying ti = some (.int .i64)) (ci : P.cellsOf ti = 1)
    (hv : Value.okWide P w r b0 t v) (h : DataW.Trod enc P w base spare held t v d p) : ∃ a n c L H C, v = .slice a n c ∧ Rs w a n c L H C := by
  obtain ⟨a, n, c, rfl⟩ := okWide_slice ht hv
  obtain ⟨fuel, hf⟩ := h
  rcases Deep.open_slice ht hf with ⟨hcs, _⟩ | ⟨x, l, k, m, q, D, Pl, hcs, _, hl, hm, hmm, _, hx⟩
  · simp [Value.cells] at hcs
    obtain ⟨rfl, rfl, rfl⟩ := hcs
    exact ⟨none, 0, 0, fun _ => 0, fun _ => 0, fun _ => 0, rfl, Nat.le_refl _, Nat.zero_le _, fun _ => ⟨rfl, rfl⟩, fun h => absurd h (by omega)⟩
  · simp [Value.cells] at hcs
    obtain ⟨rfl, rfl, rfl⟩ := hcs
    have hlm : n ≤ m := by rw [hmm]; split <;> omega
    have each : ∀ i, i < n → ∃ y : Int × Int × Int, w.cell? (x.add (i * 3)) = some (.int .i64 y.1) ∧ w.cell? (x.add (i * 3 + 1)) = some (.int .i64 y.2.1) ∧ w.cell? (x.add (i * 3 + 2)) = some (.int .i64 y.2.2) := by
      intro i hi
      obtain ⟨cs', h1, h2⟩ := hx i (by omega)
      rw [ce] at h1
      obtain ⟨_, hlen, hcell⟩ := World.cells?_some h1
      obtain ⟨y0, y1, y2, n', _, _, g0, g1, g2⟩ := Deep.trod_struct3 he h2
      match cs', hlen with
      | [v0, v1, v2], _ =>
        simp [ht0, ht1, ht2, ho0, ho1, ho2, ci] at g0 g1 g2
        obtain ⟨z0, k0, _, _⟩ := DataW.trod_int hti g0
        obtain ⟨z1, k1, _, _⟩ := DataW.trod_int hti g1
        obtain ⟨z2, k2, _, _⟩ := DataW.trod_int hti g2
        simp at k0 k1 k2
        subst k0 k1 k2
        have e0 := hcell 0 (by omega)
        have e1 := hcell 1 (by omega)
        have e2 := hcell 2 (by omega)
        rw [Deep.add_add] at e0 e1 e2
        exact ⟨(z0, z1, z2), by simpa using e0, by simpa using e1, by simpa using e2⟩
    obtain ⟨Y, hY⟩ := Deep.choose_lt each
    refine ⟨some x, n, c, fun i => (Y i).1, fun i => (Y i).2.1, fun i => (Y i).2.2, rfl, hl, hm, fun e => absurd e (by simp), fun h0 => ?_⟩
    obtain ⟨b, off, spot⟩ := x
    have hs : spot = none := by
      have := World.cell?_spot (hY 0 h0).1
      simpa [Addr.add] using this
    subst hs
    refine ⟨b, off, rfl, ?_, fun i hi => ?_, fun i hi => ?_, fun i hi => ?_⟩
    · exact World.block_lt_of_cell? _ _ (by have := (hY 0 h0).1; rwa [Addr.add_lit] at this)
    · have := (hY i hi).1; rwa [Addr.add_lit] at this
    · have := (hY i hi).2.1; rwa [Addr.add_lit] at this
    · have := (hY i hi).2.2; rwa [Addr.add_lit] at this

theorem open_range {r : Reach} {b0 : Nat} {t ti : TypeId} {f0 f1 f2 : Field} {v : Value} {d : DataW H0} {p : List MemPlace} (he : P.underlying t = some (.struct #[f0, f1, f2])) (hone : Deep.oneCellFields P #[f0, f1, f2] = true) (ce : P.cellsOf t = 3)
    (ht0 : f0.type = ti) (ht1 : f1.type = ti) (ht2 : f2.type = ti) (hti : P.underlying ti = some (.int .i64))
    (hv : Value.okWide P w r b0 t v) (h : DataW.Trod enc P w base spare held t v d p) : ∃ x y z, v = .agg #[.int .i64 x, .int .i64 y, .int .i64 z] := by
  obtain ⟨v0, v1, v2, y0, y1, y2, n, rfl, _, _, g0, g1, g2⟩ := Joins.open_agg3 he hone ce hv h
  rw [ht0] at g0
  rw [ht1] at g1
  rw [ht2] at g2
  obtain ⟨z0, k0, _, _⟩ := DataW.trod_int hti g0
  obtain ⟨z1, k1, _, _⟩ := DataW.trod_int hti g1
  obtain ⟨z2, k2, _, _⟩ := DataW.trod_int hti g2
  simp at k0 k1 k2
  subst k0 k1 k2
  exact ⟨z0, z1, z2, rfl⟩
end
end Go.Proofs.Ytedapokahgokgaa
