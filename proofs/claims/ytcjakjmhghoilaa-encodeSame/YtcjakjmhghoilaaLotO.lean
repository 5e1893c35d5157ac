/-
  Several texts in one: OpenTb, OpenVc.
-/
import Derived.Test.YtcjakjmhghoilaaLotV
import Derived.Deep.Strs
import Derived.Lib.SmallJoins
/-
  What came in, opened: a struct of a slice of rows (a text and a number each) and a slice of pairs of texts. No program is named here.
-/
namespace Go.Proofs.Ytcjakjmhghoilaa
open Go.RowKit Go.ChangeShapes Go.WideShapes

section
variable {H0 : Type} {enc : TypeId × Value → H0} {P : Program} {w : World} {base : Nat} {spare : Nat → Bool} {held : Bool}

theorem open_rwl {t e ts ti : TypeId} {f0 f1 : Field} {v : Value} {fuel : Nat} {y : DataW H0 × List MemPlace} (ht : P.underlying t = some (.slice e)) (he : P.underlying e = some (.struct #[f0, f1])) (ce : P.cellsOf e = 2)
    (ht0 : f0.type = ts) (ht1 : f1.type = ti) (ho0 : f0.offset = 0) (ho1 : f1.offset = 1) (hts : P.underlying ts = some .string) (hti : P.underlying ti = some (.int .i64)) (cs0 : P.cellsOf ts = 1) (ci : P.cellsOf ti = 1)
    (hf : DataW.trod enc P w base spare held fuel t [v] = some y) : ∃ a n c xs, v = .slice a n c ∧ Rw w a n c xs := by
  rcases Deep.open_slice ht hf with ⟨hcs, _⟩ | ⟨x, l, k, m, q, D, Pl, hcs, _, hl, hm, hmm, _, hx⟩
  · simp at hcs
    subst hcs
    exact ⟨none, 0, 0, [], rfl, Rw.none w 0 _ (Nat.zero_le _) (fun _ => rfl)⟩
  · simp at hcs
    subst hcs
    have hlm : l ≤ m := by rw [hmm]; split <;> omega
    have each : ∀ i, i < l → ∃ y : ByteArray × Int, w.cell? (x.add (i * 2)) = some (.string y.1) ∧ w.cell? (x.add (i * 2 + 1)) = some (.int .i64 y.2) := by
      intro i hi
      obtain ⟨cs', h1, h2⟩ := hx i (by omega)
      rw [ce] at h1
      obtain ⟨_, hlen, hcell⟩ := World.cells?_some h1
      obtain ⟨y0, y1, n', _, _, g0, g1⟩ := trod_struct2 he h2
      match cs', hlen with
      | [v0, v1], _ =>
        simp [ht0, ht1, ho0, ho1, cs0, ci] at g0 g1
        obtain ⟨z0, k0, _, _⟩ := DataW.trod_string hts g0
        obtain ⟨z1, k1, _, _⟩ := DataW.trod_int hti g1
        simp at k0 k1
        subst k0 k1
        have e0 := hcell 0 (by omega)
        have e1 := hcell 1 (by omega)
        rw [Deep.add_add] at e0 e1
        exact ⟨(z0, z1), by simpa using e0, by simpa using e1⟩
    obtain ⟨Y, hY⟩ := Deep.choose_lt each
    have hat : ∀ i, i < l → tat ((List.range l).map Y) i = (Y i).1 ∧ kat ((List.range l).map Y) i = (Y i).2 := fun i hi => by
      unfold tat kat
      rw [List.getD_eq_getElem?_getD, List.getElem?_map, List.getElem?_range hi]
      exact ⟨rfl, rfl⟩
    refine ⟨some x, l, k, (List.range l).map Y, rfl, by simp, hl, hm, fun e => absurd e (by simp), fun h0 => ?_⟩
    obtain ⟨b, off, spot⟩ := x
    have hs : spot = none := by
      have := World.cell?_spot (hY 0 h0).1
      simpa [Addr.add] using this
    subst hs
    refine ⟨b, off, rfl, ?_, fun i hi => ?_⟩
    · exact World.block_lt_of_cell? _ _ (by have := (hY 0 h0).1; rwa [Addr.add_lit] at this)
    · obtain ⟨h1, h2⟩ := hY i hi
      rw [Addr.add_lit] at h1 h2
      rw [(hat i hi).1, (hat i hi).2]
      exact ⟨h1, h2⟩
theorem open_pwl {t e ts ti : TypeId} {f0 f1 : Field} {v : Value} {fuel : Nat} {y : DataW H0 × List MemPlace} (ht : P.underlying t = some (.slice e)) (he : P.underlying e = some (.struct #[f0, f1])) (ce : P.cellsOf e = 2)
    (ht0 : f0.type = ts) (ht1 : f1.type = ti) (ho0 : f0.offset = 0) (ho1 : f1.offset = 1) (hts : P.underlying ts = some .string) (hti : P.underlying ti = some .string) (cs0 : P.cellsOf ts = 1) (ci : P.cellsOf ti = 1)
    (hf : DataW.trod enc P w base spare held fuel t [v] = some y) : ∃ a n c xs, v = .slice a n c ∧ Pw w a n c xs := by
  rcases Deep.open_slice ht hf with ⟨hcs, _⟩ | ⟨x, l, k, m, q, D, Pl, hcs, _, hl, hm, hmm, _, hx⟩
  · simp at hcs
    subst hcs
    exact ⟨none, 0, 0, [], rfl, Pw.none w 0 _ (Nat.zero_le _) (fun _ => rfl)⟩
  · simp at hcs
    subst hcs
    have hlm : l ≤ m := by rw [hmm]; split <;> omega
    have each : ∀ i, i < l → ∃ y : ByteArray × ByteArray, w.cell? (x.add (i * 2)) = some (.string y.1) ∧ w.cell? (x.add (i * 2 + 1)) = some (.string y.2) := by
      intro i hi
      obtain ⟨cs', h1, h2⟩ := hx i (by omega)
      rw [ce] at h1
      obtain ⟨_, hlen, hcell⟩ := World.cells?_some h1
      obtain ⟨y0, y1, n', _, _, g0, g1⟩ := trod_struct2 he h2
      match cs', hlen with
      | [v0, v1], _ =>
        simp [ht0, ht1, ho0, ho1, cs0, ci] at g0 g1
        obtain ⟨z0, k0, _, _⟩ := DataW.trod_string hts g0
        obtain ⟨z1, k1, _, _⟩ := DataW.trod_string hti g1
        simp at k0 k1
        subst k0 k1
        have e0 := hcell 0 (by omega)
        have e1 := hcell 1 (by omega)
        rw [Deep.add_add] at e0 e1
        exact ⟨(z0, z1), by simpa using e0, by simpa using e1⟩
    obtain ⟨Y, hY⟩ := Deep.choose_lt each
    have hat : ∀ i, i < l → lat ((List.range l).map Y) i = (Y i).1 ∧ gat ((List.range l).map Y) i = (Y i).2 := fun i hi => by
      unfold lat gat
      rw [List.getD_eq_getElem?_getD, List.getElem?_map, List.getElem?_range hi]
      exact ⟨rfl, rfl⟩
    refine ⟨some x, l, k, (List.range l).map Y, rfl, by simp, hl, hm, fun e => absurd e (by simp), fun h0 => ?_⟩
    obtain ⟨b, off, spot⟩ := x
    have hs : spot = none := by
      have := World.cell?_spot (hY 0 h0).1
      simpa [Addr.add] using this
    subst hs
    refine ⟨b, off, rfl, ?_, fun i hi => ?_⟩
    · exact World.block_lt_of_cell? _ _ (by have := (hY 0 h0).1; rwa [Addr.add_lit] at this)
    · obtain ⟨h1, h2⟩ := hY i hi
      rw [Addr.add_lit] at h1 h2
      rw [(hat i hi).1, (hat i hi).2]
      exact ⟨h1, h2⟩

theorem open_tables {r : Reach} {b0 : Nat} {t tr tp er ep ts ti : TypeId} {g0 g1 f0 f1 h0 h1 : Field} {v : Value} {d : DataW H0} {p : List MemPlace} (ht : P.underlying t = some (.struct #[g0, g1])) (hone : Deep.oneCellFields P #[g0, g1] = true) (hc : P.cellsOf t = 2)
    (hg0 : g0.type = tr) (hg1 : g1.type = tp) (htr : P.underlying tr = some (.slice er)) (htp : P.underlying tp = some (.slice ep))
    (her : P.underlying er = some (.struct #[f0, f1])) (cer : P.cellsOf er = 2) (rt0 : f0.type = ts) (rt1 : f1.type = ti) (ro0 : f0.offset = 0) (ro1 : f1.offset = 1)
    (hep : P.underlying ep = some (.struct #[h0, h1])) (cep : P.cellsOf ep = 2) (pt0 : h0.type = ts) (pt1 : h1.type = ts) (po0 : h0.offset = 0) (po1 : h1.offset = 1)
    (hts : P.underlying ts = some .string) (hti : P.underlying ti = some (.int .i64)) (cs : P.cellsOf ts = 1) (ci : P.cellsOf ti = 1)
    (hv : Value.okWide P w r b0 t v) (h : DataW.Trod enc P w base spare held t v d p) : ∃ a n c xs ap m cp ps, v = .agg #[.slice a n c, .slice ap m cp] ∧ Rw w a n c xs ∧ Pw w ap m cp ps := by
  obtain ⟨v0, v1, y0, y1, n, rfl, _, _, k0, k1⟩ := Joins.open_agg2 ht hone hc hv h
  rw [hg0] at k0
  rw [hg1] at k1
  obtain ⟨a, n, c, xs, rfl, hr⟩ := open_rwl htr her cer rt0 rt1 ro0 ro1 hts hti cs ci k0
  obtain ⟨ap, m, cp, ps, rfl, hp⟩ := open_pwl htp hep cep pt0 pt1 po0 po1 hts hts cs cs k1
  exact ⟨a, n, c, xs, ap, m, cp, ps, rfl, hr, hp⟩
end
end Go.Proofs.Ytcjakjmhghoilaa

/-
  What came in, opened: a struct of a slice of texts, a slice of merges (four numbers each) and a slice of specials (a text and a number each). No program is named here.
-/
namespace Go.Proofs.Ytcjakjmhghoilaa
open Go.RowKit Go.ChangeShapes Go.WideShapes

section
variable {H0 : Type} {enc : TypeId × Value → H0} {P : Program} {w : World} {base : Nat} {spare : Nat → Bool} {held : Bool}

theorem open_tsl {t e : TypeId} {v : Value} {fuel : Nat} {y : DataW H0 × List MemPlace} (ht : P.underlying t = some (.slice e)) (he : P.underlying e = some .string) (ce : P.cellsOf e = 1)
    (hf : DataW.trod enc P w base spare held fuel t [v] = some y) : ∃ a n c xs, v = .slice a n c ∧ Ts w a n c xs := by
  rcases Deep.open_strs ht he ce hf with ⟨hcs, _⟩ | ⟨x, l, k, m, Sx, hcs, _, hl, hm, hmm, _, hx⟩
  · simp at hcs
    subst hcs
    exact ⟨none, 0, 0, [], rfl, rfl, Nat.le_refl _, Nat.zero_le _, fun _ => ⟨rfl, rfl⟩, fun h => absurd h (by omega)⟩
  · simp at hcs
    subst hcs
    have hlm : l ≤ m := by rw [hmm]; split <;> omega
    refine ⟨some x, l, k, (List.range l).map Sx, rfl, by simp, hl, hm, fun e => absurd e (by simp), fun h0 => ?_⟩
    obtain ⟨b, off, spot⟩ := x
    have hs : spot = none := by
      have := World.cell?_spot (hx 0 (by omega)).1
      simpa [Addr.add] using this
    subst hs
    have key : ∀ i, i < l → w.cell? ⟨b, off + i, none⟩ = some (.string (Sx i)) := fun i hi => by
      have := (hx i (by omega)).1
      rwa [Addr.add_lit] at this
    refine ⟨b, off, rfl, World.block_lt_of_cell? _ _ (key 0 h0), fun i hi => ?_⟩
    rw [key i hi]
    simp [at_, hi]

theorem open_qwl {t e ti : TypeId} {f0 f1 f2 f3 : Field} {v : Value} {fuel : Nat} {y : DataW H0 × List MemPlace} (ht : P.underlying t = some (.slice e)) (he : P.underlying e = some (.struct #[f0, f1, f2, f3])) (ce : P.cellsOf e = 4)
    (ht0 : f0.type = ti) (ht1 : f1.type = ti) (ht2 : f2.type = ti) (ht3 : f3.type = ti) (ho0 : f0.offset = 0) (ho1 : f1.offset = 1) (ho2 : f2.offset = 2) (ho3 : f3.offset = 3) (hti : P.underlying ti = some (.int .i64)) (ci : P.cellsOf ti = 1)
    (hf : DataW.trod enc P w base spare held fuel t [v] = some y) : ∃ a n c xs, v = .slice a n c ∧ Qw w a n c xs := by
  rcases Deep.open_slice ht hf with ⟨hcs, _⟩ | ⟨x, l, k, m, q, D, Pl, hcs, _, hl, hm, hmm, _, hx⟩
  · simp at hcs
    subst hcs
    exact ⟨none, 0, 0, [], rfl, Qw.none w 0 _ (Nat.zero_le _) (fun _ => rfl)⟩
  · simp at hcs
    subst hcs
    have hlm : l ≤ m := by rw [hmm]; split <;> omega
    have each : ∀ i, i < l → ∃ y : Mg4, w.cell? (x.add (i * 4)) = some (.int .i64 y.1) ∧ w.cell? (x.add (i * 4 + 1)) = some (.int .i64 y.2.1) ∧ w.cell? (x.add (i * 4 + 2)) = some (.int .i64 y.2.2.1) ∧ w.cell? (x.add (i * 4 + 3)) = some (.int .i64 y.2.2.2) := by
      intro i hi
      obtain ⟨cs', h1, h2⟩ := hx i (by omega)
      rw [ce] at h1
      obtain ⟨_, hlen, hcell⟩ := World.cells?_some h1
      obtain ⟨y0, y1, y2, y3, n', _, _, g0, g1, g2, g3⟩ := Joins.trod_struct4 he h2
      match cs', hlen with
      | [v0, v1, v2, v3], _ =>
        simp [ht0, ht1, ht2, ht3, ho0, ho1, ho2, ho3, ci] at g0 g1 g2 g3
        obtain ⟨z0, k0, _, _⟩ := DataW.trod_int hti g0
        obtain ⟨z1, k1, _, _⟩ := DataW.trod_int hti g1
        obtain ⟨z2, k2, _, _⟩ := DataW.trod_int hti g2
        obtain ⟨z3, k3, _, _⟩ := DataW.trod_int hti g3
        simp at k0 k1 k2 k3
        subst k0 k1 k2 k3
        have e0 := hcell 0 (by omega)
        have e1 := hcell 1 (by omega)
        have e2 := hcell 2 (by omega)
        have e3 := hcell 3 (by omega)
        rw [Deep.add_add] at e0 e1 e2 e3
        exact ⟨(z0, z1, z2, z3), by simpa using e0, by simpa using e1, by simpa using e2, by simpa using e3⟩
    obtain ⟨Y, hY⟩ := Deep.choose_lt each
    have hat : ∀ i, i < l → mat ((List.range l).map Y) i = Y i := fun i hi => by
      unfold mat
      rw [List.getD_eq_getElem?_getD, List.getElem?_map, List.getElem?_range hi]
      rfl
    refine ⟨some x, l, k, (List.range l).map Y, rfl, by simp, hl, hm, fun e => absurd e (by simp), fun h0 => ?_⟩
    obtain ⟨b, off, spot⟩ := x
    have hs : spot = none := by
      have := World.cell?_spot (hY 0 h0).1
      simpa [Addr.add] using this
    subst hs
    refine ⟨b, off, rfl, ?_, fun i hi => ?_⟩
    · exact World.block_lt_of_cell? _ _ (by have := (hY 0 h0).1; rwa [Addr.add_lit] at this)
    · obtain ⟨h1, h2, h3, h4⟩ := hY i hi
      rw [Addr.add_lit] at h1 h2 h3 h4
      rw [hat i hi]
      exact ⟨h1, h2, h3, h4⟩

theorem open_vocab {r : Reach} {b0 : Nat} {t tt tm tz em ez ts ti : TypeId} {g0 g1 g2 m0 m1 m2 m3 f0 f1 : Field} {v : Value} {d : DataW H0} {p : List MemPlace} (ht : P.underlying t = some (.struct #[g0, g1, g2])) (hone : Deep.oneCellFields P #[g0, g1, g2] = true) (hc : P.cellsOf t = 3)
    (hg0 : g0.type = tt) (hg1 : g1.type = tm) (hg2 : g2.type = tz) (htt : P.underlying tt = some (.slice ts)) (htm : P.underlying tm = some (.slice em)) (htz : P.underlying tz = some (.slice ez))
    (hem : P.underlying em = some (.struct #[m0, m1, m2, m3])) (cem : P.cellsOf em = 4) (mt0 : m0.type = ti) (mt1 : m1.type = ti) (mt2 : m2.type = ti) (mt3 : m3.type = ti) (mo0 : m0.offset = 0) (mo1 : m1.offset = 1) (mo2 : m2.offset = 2) (mo3 : m3.offset = 3)
    (hez : P.underlying ez = some (.struct #[f0, f1])) (cez : P.cellsOf ez = 2) (rt0 : f0.type = ts) (rt1 : f1.type = ti) (ro0 : f0.offset = 0) (ro1 : f1.offset = 1)
    (hts : P.underlying ts = some .string) (hti : P.underlying ti = some (.int .i64)) (cs : P.cellsOf ts = 1) (ci : P.cellsOf ti = 1)
    (hv : Value.okWide P w r b0 t v) (h : DataW.Trod enc P w base spare held t v d p) : ∃ a n c xs am nm cm ms az ns cz sp, v = .agg #[.slice a n c, .slice am nm cm, .slice az ns cz] ∧ Vo w a n c am nm cm az ns cz xs ms sp := by
  obtain ⟨v0, v1, v2, y0, y1, y2, n, rfl, _, _, k0, k1, k2⟩ := Joins.open_agg3 ht hone hc hv h
  rw [hg0] at k0
  rw [hg1] at k1
  rw [hg2] at k2
  obtain ⟨a, n, c, xs, rfl, h1⟩ := open_tsl htt hts cs k0
  obtain ⟨am, nm, cm, ms, rfl, h2⟩ := open_qwl htm hem cem mt0 mt1 mt2 mt3 mo0 mo1 mo2 mo3 hti ci k1
  obtain ⟨az, ns, cz, sp, rfl, h3⟩ := open_rwl htz hez cez rt0 rt1 ro0 ro1 hts hti cs ci k2
  exact ⟨a, n, c, xs, am, nm, cm, ms, az, ns, cz, sp, rfl, h1, h2, h3⟩
end
end Go.Proofs.Ytcjakjmhghoilaa
