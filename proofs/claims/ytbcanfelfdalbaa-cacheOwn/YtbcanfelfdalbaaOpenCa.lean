/-
  What came in, opened: a slice of operations (a flag, a key and a slice of numbers each), a slice of slices of numbers. No program is named here.
-/
import Derived.Test.YtbcanfelfdalbaaLotT
import Derived.Deep.Strs
import Derived.Lib.SmallJoins
namespace Go.Proofs.Ytbcanfelfdalbaa
open Go.RowKit Go.ChangeShapes Go.WideShapes
open Pr (it)
set_option linter.unusedVariables false
/-- A slice of operations. -/
structure Cops (w : World) (a : Option Addr) (n c : Nat) (ps : Nat → Bool) (ks : Nat → ByteArray) (vs : Nat → Sv) (rs : Nat → Pr.Row) : Prop where
  at' : ∀ i, i < n → ∃ b off, a = some ⟨b, off, none⟩ ∧ b < w.heap.size ∧ w.cell? ⟨b, off + i * 3, none⟩ = some (.bool (ps i)) ∧ w.cell? ⟨b, off + i * 3 + 1, none⟩ = some (.string (ks i)) ∧ w.cell? ⟨b, off + i * 3 + 2, none⟩ = some (sv (vs i))
  rows : ∀ i, i < n → Ir w (vs i).1 (vs i).2.1 (vs i).2.2 (rs i)
theorem Cops.below {w w' : World} {a : Option Addr} {n c : Nat} {ps : Nat → Bool} {ks : Nat → ByteArray} {vs : Nat → Sv} {rs : Nat → Pr.Row} (h : Cops w a n c ps ks vs rs) (hb : Below w.heap.size w w') : Cops w' a n c ps ks vs rs :=
  ⟨fun i hi => by
    obtain ⟨b, off, h1, h2, h3, h4, h5⟩ := h.at' i hi
    exact ⟨b, off, h1, Nat.lt_of_lt_of_le h2 hb.size, (hb.cell (p := ⟨b, off + i * 3, none⟩) h2).trans h3, (hb.cell (p := ⟨b, off + i * 3 + 1, none⟩) h2).trans h4, (hb.cell (p := ⟨b, off + i * 3 + 2, none⟩) h2).trans h5⟩, fun i hi => (h.rows i hi).below hb⟩
/-- A slice of slices of numbers. -/
structure Crs (w : World) (a : Option Addr) (n c : Nat) (vs : Nat → Sv) (rs : Nat → Pr.Row) : Prop where
  mx : n ≤ maxLen
  at' : ∀ i, i < n → ∃ b off, a = some ⟨b, off, none⟩ ∧ b < w.heap.size ∧ w.cell? ⟨b, off + i, none⟩ = some (sv (vs i))
  rows : ∀ i, i < n → Ir w (vs i).1 (vs i).2.1 (vs i).2.2 (rs i)
theorem Crs.below {w w' : World} {a : Option Addr} {n c : Nat} {vs : Nat → Sv} {rs : Nat → Pr.Row} (h : Crs w a n c vs rs) (hb : Below w.heap.size w w') : Crs w' a n c vs rs :=
  ⟨h.mx, fun i hi => by
    obtain ⟨b, off, h1, h2, h3⟩ := h.at' i hi
    exact ⟨b, off, h1, Nat.lt_of_lt_of_le h2 hb.size, (hb.cell (p := ⟨b, off + i, none⟩) h2).trans h3⟩, fun i hi => (h.rows i hi).below hb⟩
section
variable {H0 : Type} {enc : TypeId × Value → H0} {P : Program} {w : World} {base : Nat} {spare : Nat → Bool} {held : Bool}
theorem open_irl {t e : TypeId} {v : Value} {fuel : Nat} {y : DataW H0 × List MemPlace} (ht : P.underlying t = some (.slice e)) (he : P.underlying e = some (.int .i64)) (hc : P.cellsOf e = 1)
    (hf : DataW.trod enc P w base spare held fuel t [v] = some y) : ∃ (s : Sv) (xs : Pr.Row), v = sv s ∧ Ir w s.1 s.2.1 s.2.2 xs := by
  rcases open_ints ht he hc hf with ⟨hcs, _⟩ | ⟨x, l, k, zs, hcs, _, hl, hm, hz, _, hcell, hwz⟩
  · simp at hcs
    subst hcs
    exact ⟨(none, 0, 0), [], rfl, Ir.none w⟩
  · simp at hcs
    subst hcs
    have hln : l ≤ zs.length := by rw [hz]; split <;> omega
    have hI : Ir w (some x) l k (zs.take l) := by
      refine ⟨by rw [List.length_take]; omega, hl, hm, fun h => absurd h (by simp), fun h0 => ?_⟩
      obtain ⟨b, off, spot⟩ := x
      have hs : spot = none := by
        have := World.cell?_spot (hcell 0 (by omega))
        simpa [Addr.add] using this
      subst hs
      have hc : ∀ i, i < l → w.cell? ⟨b, off + i, none⟩ = some (.int .i64 (it (zs.take l) i)) := fun i hi => by
        have := hcell i (by omega)
        rw [Addr.add_lit] at this
        rw [Pr.it_take hi]
        exact this
      exact ⟨b, off, rfl, World.block_lt_of_cell? _ _ (hc 0 h0), hc⟩
    exact ⟨(some x, l, k), _, rfl, hI⟩
theorem open_cops {r : Reach} {b0 : Nat} {t e tb ts tr ti : TypeId} {f0 f1 f2 : Field} {v : Value} {d : DataW H0} {p : List MemPlace} (ht : P.underlying t = some (.slice e)) (he : P.underlying e = some (.struct #[f0, f1, f2])) (ce : P.cellsOf e = 3)
    (ht0 : f0.type = tb) (ht1 : f1.type = ts) (ht2 : f2.type = tr) (ho0 : f0.offset = 0) (ho1 : f1.offset = 1) (ho2 : f2.offset = 2) (htb : P.underlying tb = some .bool) (hts : P.underlying ts = some .string) (htr : P.underlying tr = some (.slice ti)) (hti : P.underlying ti = some (.int .i64)) (cb : P.cellsOf tb = 1) (cs : P.cellsOf ts = 1) (cr : P.cellsOf tr = 1) (ci : P.cellsOf ti = 1)
    (hv : Value.okWide P w r b0 t v) (h : DataW.Trod enc P w base spare held t v d p) : ∃ a n c ps ks vs rs, v = .slice a n c ∧ Cops w a n c ps ks vs rs := by
  obtain ⟨a, n, c, rfl⟩ := okWide_slice ht hv
  obtain ⟨fuel, hf⟩ := h
  rcases Deep.open_slice ht hf with ⟨hcs, _⟩ | ⟨x, l, k, m, q, D, Pl, hcs, _, hl, hm, hmm, _, hx⟩
  · simp [Value.cells] at hcs
    obtain ⟨rfl, rfl, rfl⟩ := hcs
    exact ⟨none, 0, 0, fun _ => false, fun _ => ⟨#[]⟩, fun _ => (none, 0, 0), fun _ => [], rfl, ⟨fun i hi => absurd hi (by omega), fun i hi => absurd hi (by omega)⟩⟩
  · simp [Value.cells] at hcs
    obtain ⟨rfl, rfl, rfl⟩ := hcs
    have hlm : n ≤ m := by rw [hmm]; split <;> omega
    have each : ∀ i, i < n → ∃ y : Bool × ByteArray × Sv × Pr.Row, (w.cell? (x.add (i * 3)) = some (.bool y.1) ∧ w.cell? (x.add (i * 3 + 1)) = some (.string y.2.1) ∧ w.cell? (x.add (i * 3 + 2)) = some (sv y.2.2.1)) ∧ Ir w y.2.2.1.1 y.2.2.1.2.1 y.2.2.1.2.2 y.2.2.2 := by
      intro i hi
      obtain ⟨cs', h1, h2⟩ := hx i (by omega)
      rw [ce] at h1
      obtain ⟨_, hlen, hcell⟩ := World.cells?_some h1
      obtain ⟨y0, y1, y2, n', _, _, g0, g1, g2⟩ := Deep.trod_struct3 he h2
      match cs', hlen with
      | [v0, v1, v2], _ =>
        simp [ht0, ht1, ht2, ho0, ho1, ho2, cb, cs, cr] at g0 g1 g2
        obtain ⟨z0, k0, _⟩ := DataW.trod_bool htb g0
        obtain ⟨z1, k1, _, _⟩ := DataW.trod_string hts g1
        obtain ⟨s, rs, k2, hI⟩ := open_irl htr hti ci g2
        simp at k0 k1
        subst k0 k1 k2
        have e0 := hcell 0 (by omega)
        have e1 := hcell 1 (by omega)
        have e2 := hcell 2 (by omega)
        rw [Deep.add_add] at e0 e1 e2
        exact ⟨(z0, z1, s, rs), ⟨by simpa using e0, by simpa using e1, by simpa using e2⟩, hI⟩
    obtain ⟨Y, hY⟩ := Deep.choose_lt each
    refine ⟨some x, n, c, fun i => (Y i).1, fun i => (Y i).2.1, fun i => (Y i).2.2.1, fun i => (Y i).2.2.2, rfl, ⟨fun i hi => ?_, fun i hi => (hY i hi).2⟩⟩
    obtain ⟨b, off, spot⟩ := x
    obtain ⟨⟨h1, h2, h3⟩, _⟩ := hY i hi
    have hs : spot = none := by
      have := World.cell?_spot (hY 0 (by omega)).1.1
      simpa [Addr.add] using this
    subst hs
    rw [Addr.add_lit] at h1 h2 h3
    exact ⟨b, off, rfl, World.block_lt_of_cell? _ _ h1, h1, h2, h3⟩
theorem open_crs {r : Reach} {b0 : Nat} {t e ti : TypeId} {v : Value} {d : DataW H0} {p : List MemPlace} (ht : P.underlying t = some (.slice e)) (he : P.underlying e = some (.slice ti)) (hti : P.underlying ti = some (.int .i64)) (ce : P.cellsOf e = 1) (ci : P.cellsOf ti = 1)
    (hv : Value.okWide P w r b0 t v) (h : DataW.Trod enc P w base spare held t v d p) : ∃ a n c vs rs, v = .slice a n c ∧ Crs w a n c vs rs := by
  obtain ⟨a, n, c, rfl⟩ := okWide_slice ht hv
  obtain ⟨fuel, hf⟩ := h
  rcases Deep.open_slice ht hf with ⟨hcs, _⟩ | ⟨x, l, k, m, q, D, Pl, hcs, _, hl, hm, hmm, _, hx⟩
  · simp [Value.cells] at hcs
    obtain ⟨rfl, rfl, rfl⟩ := hcs
    exact ⟨none, 0, 0, fun _ => (none, 0, 0), fun _ => [], rfl, ⟨Nat.zero_le _, fun i hi => absurd hi (by omega), fun i hi => absurd hi (by omega)⟩⟩
  · simp [Value.cells] at hcs
    obtain ⟨rfl, rfl, rfl⟩ := hcs
    have hlm : n ≤ m := by rw [hmm]; split <;> omega
    have each : ∀ i, i < n → ∃ y : Sv × Pr.Row, w.cell? (x.add i) = some (sv y.1) ∧ Ir w y.1.1 y.1.2.1 y.1.2.2 y.2 := by
      intro i hi
      obtain ⟨cs', h1, h2⟩ := hx i (by omega)
      rw [ce] at h1
      obtain ⟨_, hlen, hcell⟩ := World.cells?_some h1
      match cs', hlen with
      | [v0], _ =>
        obtain ⟨s, rs, k2, hI⟩ := open_irl he hti ci h2
        subst k2
        have e0 := hcell 0 (by omega)
        rw [Deep.add_add] at e0
        exact ⟨(s, rs), by simpa using e0, hI⟩
    obtain ⟨Y, hY⟩ := Deep.choose_lt each
    refine ⟨some x, n, c, fun i => (Y i).1, fun i => (Y i).2, rfl, ⟨Nat.le_trans hl hm, fun i hi => ?_, fun i hi => (hY i hi).2⟩⟩
    obtain ⟨b, off, spot⟩ := x
    have h1 := (hY i hi).1
    have hs : spot = none := by
      have := World.cell?_spot (hY 0 (by omega)).1
      simpa [Addr.add] using this
    subst hs
    rw [Addr.add_lit] at h1
    exact ⟨b, off, rfl, World.block_lt_of_cell? _ _ h1, h1⟩
end
end Go.Proofs.Ytbcanfelfdalbaa
