/-
  What came in, opened: an entry, a slice of entries, a slice of operations (a kind and an entry each).
-/
import Derived.Test.YtadkiikakgmpnaaQuR
import Derived.Deep.Strs
import Derived.Lib.SmallJoins
namespace Go.Proofs.Ytadkiikakgmpnaa
open Go.RowKit Go.ChangeShapes Go.WideShapes Hp

theorem et_range (Y : Nat → Ent) {n i : Nat} (h : i < n) : et ((List.range n).map Y) i = Y i := by
  unfold et
  rw [List.getD_eq_getElem?_getD]
  simp [h]
theorem er_fun {w : World} {a : Option Addr} {n c : Nat} (Y : Nat → Ent) (hl : n ≤ c) (hm : c ≤ maxLen) (hn : a = none → n = 0 ∧ c = 0)
    (hc : 0 < n → ∃ b off, a = some ⟨b, off, none⟩ ∧ b < w.heap.size ∧ ∀ i, i < n → w.cell? ⟨b, off + i * 3, none⟩ = some (.int .i64 (Y i).1) ∧ w.cell? ⟨b, off + i * 3 + 1, none⟩ = some (.int .i64 (Y i).2.1) ∧ w.cell? ⟨b, off + i * 3 + 2, none⟩ = some (.int .i64 (Y i).2.2)) : Er w a n c ((List.range n).map Y) :=
  ⟨by simp, hl, hm, hn, fun h0 => by
    obtain ⟨b, off, h1, h2, h3⟩ := hc h0
    exact ⟨b, off, h1, h2, fun i hi => by rw [et_range Y hi]; exact (h3 i hi).1, fun i hi => by rw [et_range Y hi]; exact (h3 i hi).2.1, fun i hi => by rw [et_range Y hi]; exact (h3 i hi).2.2⟩⟩
/-- A slice of operations: kinds, and entries. -/
structure Ops (w : World) (a : Option Addr) (n c : Nat) (ks : Nat → Int) (l : List Ent) : Prop where
  len : l.length = n
  at' : ∀ i, i < n → ∃ b off, a = some ⟨b, off, none⟩ ∧ b < w.heap.size ∧ w.cell? ⟨b, off + i * 4, none⟩ = some (.int .u8 (ks i)) ∧ w.cell? ⟨b, off + i * 4 + 1, none⟩ = some (.int .i64 (et l i).1) ∧ w.cell? ⟨b, off + i * 4 + 2, none⟩ = some (.int .i64 (et l i).2.1) ∧ w.cell? ⟨b, off + i * 4 + 3, none⟩ = some (.int .i64 (et l i).2.2)
theorem Ops.below {w w' : World} {a : Option Addr} {n c : Nat} {ks : Nat → Int} {l : List Ent} (h : Ops w a n c ks l) (hb : Below w.heap.size w w') : Ops w' a n c ks l :=
  ⟨h.len, fun i hi => by
    obtain ⟨b, off, h1, h2, h3, h4, h5, h6⟩ := h.at' i hi
    exact ⟨b, off, h1, Nat.lt_of_lt_of_le h2 hb.size, (hb.cell (p := ⟨b, off + i * 4, none⟩) h2).trans h3, (hb.cell (p := ⟨b, off + i * 4 + 1, none⟩) h2).trans h4, (hb.cell (p := ⟨b, off + i * 4 + 2, none⟩) h2).trans h5, (hb.cell (p := ⟨b, off + i * 4 + 3, none⟩) h2).trans h6⟩⟩
section
variable {H0 : Type} {enc : TypeId × Value → H0} {P : Program} {w : World} {base : Nat} {spare : Nat → Bool} {held : Bool}
theorem open_es {r : Reach} {b0 : Nat} {t e ti : TypeId} {f0 f1 f2 : Field} {v : Value} {d : DataW H0} {p : List MemPlace} (ht : P.underlying t = some (.slice e)) (he : P.underlying e = some (.struct #[f0, f1, f2])) (ce : P.cellsOf e = 3)
    (ht0 : f0.type = ti) (ht1 : f1.type = ti) (ht2 : f2.type = ti) (ho0 : f0.offset = 0) (ho1 : f1.offset = 1) (ho2 : f2.offset = 2) (hti : P.underlying ti = some (.int .i64)) (ci : P.cellsOf ti = 1)
    (hv : Value.okWide P w r b0 t v) (h : DataW.Trod enc P w base spare held t v d p) : ∃ a n c l, v = .slice a n c ∧ Er w a n c l ∧ ∀ x ∈ l, (key x.1).wf = true := by
  obtain ⟨a, n, c, rfl⟩ := okWide_slice ht hv
  obtain ⟨fuel, hf⟩ := h
  rcases Deep.open_slice ht hf with ⟨hcs, _⟩ | ⟨x, l, k, m, q, D, Pl, hcs, _, hl, hm, hmm, _, hx⟩
  · simp [Value.cells] at hcs
    obtain ⟨rfl, rfl, rfl⟩ := hcs
    exact ⟨none, 0, 0, _, rfl, er_fun (fun _ => (0, 0, 0)) (Nat.le_refl _) (Nat.zero_le _) (fun _ => ⟨rfl, rfl⟩) (fun h => absurd h (by omega)), fun x hx => by simp at hx⟩
  · simp [Value.cells] at hcs
    obtain ⟨rfl, rfl, rfl⟩ := hcs
    have hlm : n ≤ m := by rw [hmm]; split <;> omega
    have each : ∀ i, i < n → ∃ y : Int × Int × Int, (w.cell? (x.add (i * 3)) = some (.int .i64 y.1) ∧ w.cell? (x.add (i * 3 + 1)) = some (.int .i64 y.2.1) ∧ w.cell? (x.add (i * 3 + 2)) = some (.int .i64 y.2.2)) ∧ (key y.1).wf = true := by
      intro i hi
      obtain ⟨cs', h1, h2⟩ := hx i (by omega)
      rw [ce] at h1
      obtain ⟨_, hlen, hcell⟩ := World.cells?_some h1
      obtain ⟨y0, y1, y2, n', _, _, g0, g1, g2⟩ := Deep.trod_struct3 he h2
      match cs', hlen with
      | [v0, v1, v2], _ =>
        simp [ht0, ht1, ht2, ho0, ho1, ho2, ci] at g0 g1 g2
        obtain ⟨z0, k0, _, w0⟩ := DataW.trod_int hti g0
        obtain ⟨z1, k1, _, _⟩ := DataW.trod_int hti g1
        obtain ⟨z2, k2, _, _⟩ := DataW.trod_int hti g2
        simp at k0 k1 k2
        subst k0 k1 k2
        have e0 := hcell 0 (by omega)
        have e1 := hcell 1 (by omega)
        have e2 := hcell 2 (by omega)
        rw [Deep.add_add] at e0 e1 e2
        exact ⟨(z0, z1, z2), ⟨by simpa using e0, by simpa using e1, by simpa using e2⟩, w0⟩
    obtain ⟨Y, hY⟩ := Deep.choose_lt each
    refine ⟨some x, n, c, _, rfl, er_fun Y hl hm (fun e => absurd e (by simp)) (fun h0 => ?_), fun e he => ?_⟩
    · obtain ⟨b, off, spot⟩ := x
      have hs : spot = none := by
        have := World.cell?_spot (hY 0 h0).1.1
        simpa [Addr.add] using this
      subst hs
      refine ⟨b, off, rfl, ?_, fun i hi => ?_⟩
      · exact World.block_lt_of_cell? _ _ (by have := (hY 0 h0).1.1; rwa [Addr.add_lit] at this)
      · obtain ⟨⟨h1, h2, h3⟩, _⟩ := hY i hi
        rw [Addr.add_lit] at h1 h2 h3
        exact ⟨h1, h2, h3⟩
    · simp only [List.mem_map, List.mem_range] at he
      obtain ⟨i, hi, rfl⟩ := he
      exact (hY i hi).2
theorem open_ops {r : Reach} {b0 : Nat} {t e te tu ti : TypeId} {k0 k1 f0 f1 f2 : Field} {v : Value} {d : DataW H0} {p : List MemPlace} (ht : P.underlying t = some (.slice e)) (hk : P.underlying e = some (.struct #[k0, k1])) (ck : P.cellsOf e = 4)
    (kt0 : k0.type = tu) (kt1 : k1.type = te) (ko0 : k0.offset = 0) (ko1 : k1.offset = 1) (htu : P.underlying tu = some (.int .u8)) (cu : P.cellsOf tu = 1)
    (he : P.underlying te = some (.struct #[f0, f1, f2])) (ce : P.cellsOf te = 3)
    (ht0 : f0.type = ti) (ht1 : f1.type = ti) (ht2 : f2.type = ti) (ho0 : f0.offset = 0) (ho1 : f1.offset = 1) (ho2 : f2.offset = 2) (hti : P.underlying ti = some (.int .i64)) (ci : P.cellsOf ti = 1)
    (hv : Value.okWide P w r b0 t v) (h : DataW.Trod enc P w base spare held t v d p) : ∃ a n c ks l, v = .slice a n c ∧ Ops w a n c ks l ∧ ∀ x ∈ l, (key x.1).wf = true := by
  obtain ⟨a, n, c, rfl⟩ := okWide_slice ht hv
  obtain ⟨fuel, hf⟩ := h
  rcases Deep.open_slice ht hf with ⟨hcs, _⟩ | ⟨x, l, k, m, q, D, Pl, hcs, _, hl, hm, hmm, _, hx⟩
  · simp [Value.cells] at hcs
    obtain ⟨rfl, rfl, rfl⟩ := hcs
    exact ⟨none, 0, 0, fun _ => 0, [], rfl, ⟨rfl, fun i hi => absurd hi (by omega)⟩, fun x hx => by simp at hx⟩
  · simp [Value.cells] at hcs
    obtain ⟨rfl, rfl, rfl⟩ := hcs
    have hlm : n ≤ m := by rw [hmm]; split <;> omega
    have each : ∀ i, i < n → ∃ y : Int × Int × Int × Int, (w.cell? (x.add (i * 4)) = some (.int .u8 y.1) ∧ w.cell? (x.add (i * 4 + 1)) = some (.int .i64 y.2.1) ∧ w.cell? (x.add (i * 4 + 2)) = some (.int .i64 y.2.2.1) ∧ w.cell? (x.add (i * 4 + 3)) = some (.int .i64 y.2.2.2)) ∧ (key y.2.1).wf = true := by
      intro i hi
      obtain ⟨cs', h1, h2⟩ := hx i (by omega)
      rw [ck] at h1
      obtain ⟨_, hlen, hcell⟩ := World.cells?_some h1
      obtain ⟨xs, n', _, _, hl', hlen', hf'⟩ := DataW.trod_struct hk h2
      match cs', hlen, xs, hlen' with
      | [v0, v1, v2, v3], _, [z0, z1], _ =>
        have g0 := hf' 0 k0 rfl
        have g1 := hf' 1 k1 rfl
        simp [kt0, kt1, ko0, ko1, cu, ce] at g0 g1
        obtain ⟨a0, q0, _, _⟩ := DataW.trod_int htu g0
        obtain ⟨y0, y1, y2, n'', _, _, u0, u1, u2⟩ := Deep.trod_struct3 he g1
        simp [ht0, ht1, ht2, ho0, ho1, ho2, ci] at u0 u1 u2
        obtain ⟨a1, q1, _, w1⟩ := DataW.trod_int hti u0
        obtain ⟨a2, q2, _, _⟩ := DataW.trod_int hti u1
        obtain ⟨a3, q3, _, _⟩ := DataW.trod_int hti u2
        simp at q0 q1 q2 q3
        subst q0 q1 q2 q3
        have e0 := hcell 0 (by omega)
        have e1 := hcell 1 (by omega)
        have e2 := hcell 2 (by omega)
        have e3 := hcell 3 (by omega)
        rw [Deep.add_add] at e0 e1 e2 e3
        exact ⟨(a0, a1, a2, a3), ⟨by simpa using e0, by simpa using e1, by simpa using e2, by simpa using e3⟩, w1⟩
    obtain ⟨Y, hY⟩ := Deep.choose_lt each
    refine ⟨some x, n, c, fun i => (Y i).1, (List.range n).map (fun i => (Y i).2), rfl, ⟨by simp, fun i hi => ?_⟩, fun e he => ?_⟩
    · obtain ⟨b, off, spot⟩ := x
      obtain ⟨⟨h1, h2, h3, h4⟩, _⟩ := hY i hi
      have hs : spot = none := by
        have := World.cell?_spot (hY 0 (by omega)).1.1
        simpa [Addr.add] using this
      subst hs
      rw [Addr.add_lit] at h1 h2 h3 h4
      rw [et_range _ hi]
      exact ⟨b, off, rfl, World.block_lt_of_cell? _ _ h1, h1, h2, h3, h4⟩
    · simp only [List.mem_map, List.mem_range] at he
      obtain ⟨i, hi, rfl⟩ := he
      exact (hY i hi).2
theorem open_entry {r : Reach} {b0 : Nat} {t ti : TypeId} {f0 f1 f2 : Field} {v : Value} {d : DataW H0} {p : List MemPlace} (he : P.underlying t = some (.struct #[f0, f1, f2])) (hone : Deep.oneCellFields P #[f0, f1, f2] = true) (ce : P.cellsOf t = 3)
    (ht0 : f0.type = ti) (ht1 : f1.type = ti) (ht2 : f2.type = ti) (hti : P.underlying ti = some (.int .i64))
    (hv : Value.okWide P w r b0 t v) (h : DataW.Trod enc P w base spare held t v d p) : ∃ x : Ent, v = va x ∧ (key x.1).wf = true := by
  obtain ⟨v0, v1, v2, y0, y1, y2, n, rfl, _, _, g0, g1, g2⟩ := Joins.open_agg3 he hone ce hv h
  rw [ht0] at g0
  rw [ht1] at g1
  rw [ht2] at g2
  obtain ⟨z0, k0, _, w0⟩ := DataW.trod_int hti g0
  obtain ⟨z1, k1, _, _⟩ := DataW.trod_int hti g1
  obtain ⟨z2, k2, _, _⟩ := DataW.trod_int hti g2
  simp at k0 k1 k2
  subst k0 k1 k2
  exact ⟨(z0, z1, z2), rfl, w0⟩
end
end Go.Proofs.Ytadkiikakgmpnaa
