/-
  What came in, opened: slices of rows (a text and a number each). No program is named here.
-/
import Derived.Test.YtjpboackbjfenaaRk
import Derived.Deep.Strs
import Derived.Lib.SmallJoins
namespace Go.Proofs.Ytjpboackbjfenaa
open Go.RowKit Go.ChangeShapes Go.WideShapes

section
variable {H0 : Type} {enc : TypeId × Value → H0} {P : Program} {w : World} {base : Nat} {spare : Nat → Bool} {held : Bool}

theorem open_rw {r : Reach} {b0 : Nat} {t e ts ti : TypeId} {f0 f1 : Field} {v : Value} {d : DataW H0} {p : List MemPlace} (ht : P.underlying t = some (.slice e)) (he : P.underlying e = some (.struct #[f0, f1])) (ce : P.cellsOf e = 2)
    (ht0 : f0.type = ts) (ht1 : f1.type = ti) (ho0 : f0.offset = 0) (ho1 : f1.offset = 1) (hts : P.underlying ts = some .string) (hti : P.underlying ti = some (.int .i64)) (cs0 : P.cellsOf ts = 1) (ci : P.cellsOf ti = 1)
    (hv : Value.okWide P w r b0 t v) (h : DataW.Trod enc P w base spare held t v d p) : ∃ a n c xs, v = .slice a n c ∧ Rw w a n c xs := by
  obtain ⟨a, n, c, rfl⟩ := okWide_slice ht hv
  obtain ⟨fuel, hf⟩ := h
  rcases Deep.open_slice ht hf with ⟨hcs, _⟩ | ⟨x, l, k, m, q, D, Pl, hcs, _, hl, hm, hmm, _, hx⟩
  · simp [Value.cells] at hcs
    obtain ⟨rfl, rfl, rfl⟩ := hcs
    exact ⟨none, 0, 0, [], rfl, Rw.none w 0 _ (Nat.zero_le _) (fun _ => rfl)⟩
  · simp [Value.cells] at hcs
    obtain ⟨rfl, rfl, rfl⟩ := hcs
    have hlm : n ≤ m := by rw [hmm]; split <;> omega
    have each : ∀ i, i < n → ∃ y : ByteArray × Int, w.cell? (x.add (i * 2)) = some (.string y.1) ∧ w.cell? (x.add (i * 2 + 1)) = some (.int .i64 y.2) := by
      intro i hi
      obtain ⟨cs', h1, h2⟩ := hx i (by omega)
      rw [ce] at h1
      obtain ⟨_, hlen, hcell⟩ := World.cells?_some h1
      obtain ⟨y0, y1, n', _, _, g0, g1⟩ := trod_struct2 he h2
      match cs', hlen with
      | [v0, v1], _ =>
        simp [ht0, ht1, ho0, ho1, cs0, ci] at g0 g1
        obtain ⟨z0, k0, _, _⟩ := DataW.trod_string hts g0
        obtain ⟨z1, k1, _, _⟩ := DataW.trod_int hti g1
        simp at k0 k1
        subst k0 k1
        have e0 := hcell 0 (by omega)
        have e1 := hcell 1 (by omega)
        rw [Deep.add_add] at e0 e1
        exact ⟨(z0, z1), by simpa using e0, by simpa using e1⟩
    obtain ⟨Y, hY⟩ := Deep.choose_lt each
    have hat : ∀ i, i < n → tat ((List.range n).map Y) i = (Y i).1 ∧ kat ((List.range n).map Y) i = (Y i).2 := fun i hi => by
      unfold tat kat
      rw [List.getD_eq_getElem?_getD, List.getElem?_map, List.getElem?_range hi]
      exact ⟨rfl, rfl⟩
    refine ⟨some x, n, c, (List.range n).map Y, rfl, by simp, hl, hm, fun e => absurd e (by simp), fun h0 => ?_⟩
    obtain ⟨b, off, spot⟩ := x
    have hs : spot = none := by
      have := World.cell?_spot (hY 0 h0).1
      simpa [Addr.add] using this
    subst hs
    refine ⟨b, off, rfl, ?_, fun i hi => ?_⟩
    · exact World.block_lt_of_cell? _ _ (by have := (hY 0 h0).1; rwa [Addr.add_lit] at this)
    · obtain ⟨h1, h2⟩ := hY i hi
      rw [Addr.add_lit] at h1 h2
      rw [(hat i hi).1, (hat i hi).2]
      exact ⟨h1, h2⟩
end
end Go.Proofs.Ytjpboackbjfenaa
