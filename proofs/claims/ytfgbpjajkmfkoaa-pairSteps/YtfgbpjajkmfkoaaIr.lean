/-
  Slices of numbers told by lists; rows that are written in their place. No program is named here.
-/
import Derived.Test.YtfgbpjajkmfkoaaPrMath
import Derived.Test.YtfgbpjajkmfkoaaOwn
import Derived.Test.YtfgbpjajkmfkoaaApp
import Derived.Laws.CopyOwn
import Derived.OpenShut
namespace Go.Proofs.Ytfgbpjajkmfkoaa
open Go.RowKit
open Pr (it)

/-- Numbers as values. -/
def iv (xs : Pr.Row) : List Value := xs.map (Value.int .i64)
theorem iv_length (xs : Pr.Row) : (iv xs).length = xs.length := by simp [iv]
theorem iv_append (xs ys : Pr.Row) : iv xs ++ iv ys = iv (xs ++ ys) := by simp [iv]
theorem iv_one (xs : Pr.Row) : ∀ u ∈ iv xs, u.oneCell' = true := by
  intro u hu
  simp only [iv, List.mem_map] at hu
  obtain ⟨i, _, rfl⟩ := hu
  rfl
theorem iv_get {xs : Pr.Row} {i : Nat} (h : i < xs.length) : (iv xs)[i]? = some (.int .i64 (it xs i)) := by
  unfold iv
  rw [List.getElem?_map, Pr.it_get h]
  rfl
theorem iv_inv {xs : Pr.Row} {i : Nat} {u : Value} (h : (iv xs)[i]? = some u) : i < xs.length ∧ u = .int .i64 (it xs i) := by
  have hi : i < xs.length := by
    have := (List.getElem?_eq_some_iff.1 h).1
    rwa [iv_length] at this
  rw [iv_get hi] at h
  exact ⟨hi, (Option.some.inj h).symm⟩

/-- A slice of numbers: nil, or it leads to cells that hold them. -/
structure Ir (w : World) (a : Option Addr) (n cap : Nat) (xs : Pr.Row) : Prop where
  len : xs.length = n
  le : n ≤ cap
  mx : cap ≤ maxLen
  nil : a = none → n = 0 ∧ cap = 0
  at' : 0 < n → ∃ b off, a = some ⟨b, off, none⟩ ∧ b < w.heap.size ∧ ∀ i, i < n → w.cell? ⟨b, off + i, none⟩ = some (.int .i64 (it xs i))
theorem Ir.below {w w' : World} {a : Option Addr} {n cap : Nat} {xs : Pr.Row} (h : Ir w a n cap xs) (hb : Below w.heap.size w w') : Ir w' a n cap xs :=
  ⟨h.len, h.le, h.mx, h.nil, fun hn => by
    obtain ⟨b, off, rfl, hlt, hc⟩ := h.at' hn
    exact ⟨b, off, rfl, Nat.lt_of_lt_of_le hlt hb.size, fun i hi => by rw [hb.cell (p := ⟨b, off + i, none⟩) hlt]; exact hc i hi⟩⟩
theorem Ir.none (w : World) : Ir w .none 0 0 [] := ⟨rfl, Nat.le_refl _, Nat.zero_le _, fun _ => ⟨rfl, rfl⟩, fun h => absurd h (by omega)⟩
theorem Ir.src {w : World} {a : Option Addr} {n cap : Nat} {xs : Pr.Row} (h : Ir w a n cap xs) : Src w a n cap 1 (iv xs) :=
  ⟨by rw [iv_length, h.len, Nat.mul_one], iv_one xs, h.nil, fun ad ha j u hu => by
    obtain ⟨hj, rfl⟩ := iv_inv hu
    rw [h.len] at hj
    obtain ⟨b, off, hab, _, hc⟩ := h.at' (by omega)
    rw [ha] at hab
    cases hab
    rw [Addr.add_lit]
    exact hc j hj⟩
/-- 's[:m]'. -/
theorem Ir.first {w : World} {a : Option Addr} {n cap : Nat} {xs : Pr.Row} (h : Ir w a n cap xs) (m : Nat) (hm : m ≤ n) : Ir w a m cap (xs.take m) :=
  ⟨by rw [List.length_take, h.len]; omega, Nat.le_trans hm h.le, h.mx, fun e => ⟨by have := (h.nil e).1; omega, (h.nil e).2⟩, fun h0 => by
    obtain ⟨b, off, e, hlt, hc⟩ := h.at' (by omega)
    refine ⟨b, off, e, hlt, fun i hi => ?_⟩
    rw [Pr.it_take hi]
    exact hc i (by omega)⟩
/-- 's[m:]'. -/
theorem Ir.cut {w : World} {b off n cap : Nat} {xs : Pr.Row} (h : Ir w (some ⟨b, off, .none⟩) n cap xs) (m : Nat) (hm : m ≤ n) : Ir w (some ⟨b, off + m, .none⟩) (n - m) (cap - m) (xs.drop m) :=
  ⟨by rw [List.length_drop, h.len], by have := h.le; omega, by have := h.mx; omega, fun e => absurd e (by simp), fun h0 => by
    obtain ⟨b', off', e, hlt, hc⟩ := h.at' (by omega)
    cases e
    refine ⟨b, off + m, rfl, hlt, fun i hi => ?_⟩
    rw [Pr.it_drop, Nat.add_assoc]
    exact hc (m + i) (by omega)⟩
/-- A slice of no numbers. -/
theorem Ir.zero (w : World) (a : Option Addr) (c : Nat) (hc : c ≤ maxLen) (h : a = .none → c = 0) : Ir w a 0 c [] :=
  ⟨rfl, Nat.zero_le _, hc, fun e => ⟨rfl, h e⟩, fun h => absurd h (by omega)⟩
/-- A row of the call's own as a slice of numbers. -/
theorem Ir.ofOwn {w : World} {base : Nat} {e : TypeId} {v : Value} {n : Nat} {xs : Pr.Row} (h : w.ownsRow base e 1 v n (iv xs)) : ∃ a cap, v = .slice a n cap ∧ Ir w a n cap xs := by
  obtain ⟨hl, h⟩ := h
  rw [iv_length, Nat.mul_one] at hl
  rcases h with ⟨rfl, rfl⟩ | ⟨g, cap, cur, rfl, hb, hg, hn, hm, hs, ht⟩
  · exact ⟨.none, 0, rfl, hl, by omega, Nat.zero_le _, fun _ => ⟨rfl, rfl⟩, fun h => absurd h (by omega)⟩
  · refine ⟨_, cap, rfl, hl, hn, hm, fun h => absurd h (by simp), fun h0 => ⟨g, 0, rfl, (Array.getElem?_eq_some_iff.1 hg).1, fun i hi => ?_⟩⟩
    have e1 : (cur.toList.take (n * 1))[i]? = some (.int .i64 (it xs i)) := by rw [ht]; exact iv_get (by omega)
    rw [List.getElem?_take_of_lt (by omega)] at e1
    have e2 : cur[i]? = some (.int .i64 (it xs i)) := by simpa using e1
    simp [World.cell?, hg, e2]
theorem Ir.ofOwn' {w : World} {base : Nat} {e : TypeId} {a : Option Addr} {n cap : Nat} {xs : Pr.Row} (h : w.ownsRow base e 1 (.slice a n cap) n (iv xs)) : Ir w a n cap xs := by
  obtain ⟨a2, c2, e2, h2⟩ := Ir.ofOwn h
  cases e2
  exact h2
/-- A block laid just now. -/
theorem Ir.block {w : World} {b n : Nat} {e : TypeId} {f : Nat × Nat} {xs : Pr.Row} (hl : xs.length = n) (hb : w.heap[b]? = some (.cells (iv xs).toArray e f)) (hn : n ≤ maxLen) : Ir w (some ⟨b, 0, .none⟩) n n xs :=
  ⟨hl, Nat.le_refl _, hn, fun e => absurd e (by simp), fun h0 => ⟨b, 0, rfl, (Array.getElem?_eq_some_iff.1 hb).1, fun i hi => by
    have := iv_get (xs := xs) (i := i) (by omega)
    simp only [World.cell?, hb]
    simpa using this⟩⟩

/-- A row in a block that is known whole, spare cells and all. -/
theorem splice_get {α : Type} (L : List α) (off : Nat) (cs : List α) (h : off + cs.length ≤ L.length) (i : Nat) : (splice L off cs)[i]? = if i < off then L[i]? else if i < off + cs.length then cs[i - off]? else L[i]? := by
  unfold splice
  by_cases h1 : i < off
  · rw [if_pos h1, List.getElem?_append_left (by rw [List.length_take]; omega), List.getElem?_take_of_lt h1]
  · rw [if_neg h1, List.getElem?_append_right (by rw [List.length_take]; omega), List.length_take, Nat.min_eq_left (by omega)]
    by_cases h2 : i < off + cs.length
    · rw [if_pos h2, List.getElem?_append_left (by omega)]
    · rw [if_neg h2, List.getElem?_append_right (by omega), List.getElem?_drop]
      congr 1
      omega
/-- What two copies and a store make of a row. -/
theorem join_list {cur : List Value} {xs : Pr.Row} {n m p : Nat} (o : Int) (hl : xs.length = n) (hm : n = m + 1) (hp : p + 1 < n) (hc : m ≤ cur.length) :
    ((splice (splice cur 0 (iv (xs.take p))) (p + 1) (iv (xs.drop (p + 2)))).set p (.int .i64 o)).take m = iv (Pr.jn xs p o) := by
  have l1 : (iv (xs.take p)).length = p := by rw [iv_length, List.length_take]; omega
  have l2 : (iv (xs.drop (p + 2))).length = n - (p + 2) := by rw [iv_length, List.length_drop, hl]
  have l3 : (splice cur 0 (iv (xs.take p))).length = cur.length := length_splice _ _ _ (by omega)
  have l4 : (splice (splice cur 0 (iv (xs.take p))) (p + 1) (iv (xs.drop (p + 2)))).length = cur.length := by rw [length_splice _ _ _ (by omega), l3]
  have lj : (Pr.jn xs p o).length = m := by rw [Pr.jn_len o (by omega)]; omega
  apply List.ext_getElem?
  intro i
  by_cases hi : i < m
  · rw [List.getElem?_take_of_lt hi, iv_get (by omega), Pr.jn_it o (by omega), List.getElem?_set]
    by_cases h1 : p = i
    · rw [if_pos h1, if_pos (by omega), if_neg (by omega), if_pos h1.symm]
    · rw [if_neg h1, splice_get _ _ _ (by omega)]
      by_cases h2 : i < p
      · rw [if_pos (by omega), splice_get _ _ _ (by omega), if_neg (by omega), if_pos (by omega), if_pos h2]
        have e := iv_get (xs := xs.take p) (i := i) (by rw [List.length_take]; omega)
        rw [Pr.it_take h2] at e
        exact e
      · rw [if_neg (by omega), if_pos (by omega), if_neg h2, if_neg (by omega)]
        have e := iv_get (xs := xs.drop (p + 2)) (i := i - (p + 1)) (by rw [List.length_drop]; omega)
        rw [e, Pr.it_drop]
        congr 3
        omega
  · rw [List.getElem?_eq_none (by rw [List.length_take]; omega), List.getElem?_eq_none (by rw [iv_length]; omega)]
theorem set_row {w : World} {G p : Nat} {cur : List Value} {t : TypeId} {f : Nat × Nat} (h : w.heap[G]? = some (.cells cur.toArray t f)) (v : Value) : (w.setCell ⟨G, p, none⟩ v).heap[G]? = some (.cells (cur.set p v).toArray t f) := by
  rw [World.setCell, Array.getElem?_modify, if_pos rfl, h]
  simp
theorem cell_row {w : World} {G : Nat} {cur : List Value} {t : TypeId} {f : Nat × Nat} (h : w.heap[G]? = some (.cells cur.toArray t f)) (i : Nat) : w.cell? ⟨G, i, none⟩ = cur[i]? := by
  simp [World.cell?, h]

section
open Go.ChangeShapes Go.WideShapes
variable {H0 : Type} {enc : TypeId × Value → H0} {P : Program} {w : World} {base : Nat} {spare : Nat → Bool} {held : Bool}
/-- Each number fits. -/
def Fits (xs : Pr.Row) : Prop := ∀ x ∈ xs, (Lit.int .i64 x).wf = true
theorem open_ir {r : Reach} {b0 : Nat} {t e : TypeId} {v : Value} {d : DataW H0} {p : List MemPlace} (ht : P.underlying t = some (.slice e)) (he : P.underlying e = some (.int .i64)) (hc : P.cellsOf e = 1)
    (hv : Value.okWide P w r b0 t v) (h : DataW.Trod enc P w base spare held t v d p) : ∃ a n c xs, v = .slice a n c ∧ Ir w a n c xs ∧ Fits xs := by
  obtain ⟨a, n, c, rfl⟩ := okWide_slice ht hv
  obtain ⟨fuel, hf⟩ := h
  rcases open_ints ht he hc hf with ⟨hcs, _⟩ | ⟨x, l, k, zs, hcs, _, hl, hm, hz, _, hcell, hwz⟩
  · simp [Value.cells] at hcs
    obtain ⟨rfl, rfl, rfl⟩ := hcs
    exact ⟨none, 0, 0, [], rfl, Ir.none w, fun x hx => by cases hx⟩
  · simp [Value.cells] at hcs
    obtain ⟨rfl, rfl, rfl⟩ := hcs
    have hln : n ≤ zs.length := by rw [hz]; split <;> omega
    refine ⟨some x, n, c, zs.take n, rfl, ⟨by rw [List.length_take]; omega, hl, hm, fun h => absurd h (by simp), fun h0 => ?_⟩, fun x hx => hwz x (List.mem_of_mem_take hx)⟩
    obtain ⟨b, off, spot⟩ := x
    have hs : spot = none := by
      have := World.cell?_spot (hcell 0 (by omega))
      simpa [Addr.add] using this
    subst hs
    have hc : ∀ i, i < n → w.cell? ⟨b, off + i, none⟩ = some (.int .i64 (it (zs.take n) i)) := fun i hi => by
      have := hcell i (by omega)
      rw [Addr.add_lit] at this
      rw [Pr.it_take hi]
      exact this
    exact ⟨b, off, rfl, World.block_lt_of_cell? _ _ (hc 0 h0), hc⟩
end
end Go.Proofs.Ytfgbpjajkmfkoaa
